/- Plans: plain facts: exchanges, companions, whole counts, holders, the boundary; what is given up of what is left. -/
import Derived.Test.YtmaiphgmnammgaaDoorZSMaps
import Derived.Test.YtmaiphgmnammgaaDoorZSetMaths
import Derived.Test.YtmaiphgmnammgaaDoorZKeyMaths
set_option linter.unusedVariables false
set_option linter.unusedSimpArgs false
namespace Go.Proofs.YtmaiphgmnammgaaDoor
open Go.RowKit Go.Sort

/-- An exchange: who, of which old configuration, its counts (where they lie, and what they are), the last one's key. -/
structure Xg where
  w : Int
  oe : Int
  op : Int
  a : Option Addr
  n : Nat
  c : Nat
  cnt : List Int
  k : K
/-- Its six cells. -/
def encXg (x : Xg) : List Value := [.int .i64 x.w, .int .u64 x.oe, .int .i64 x.op, .slice x.a x.n x.c, .int .u64 x.k.n, .int .i64 x.k.p]
theorem encXg_length (x : Xg) : (encXg x).length = 6 := rfl
/-- Its counts lie where it says, and are numbers of their kind. -/
structure XgIn (w : World) (x : Xg) : Prop where
  le : x.n ≤ x.c
  at_ : Lst (fun n : Int => [.int .u32 n]) 1 w x.a x.n x.cnt
  u32 : ∀ v ∈ x.cnt, 0 ≤ v ∧ v < 4294967296
theorem XgIn.below {w w' : World} {x : Xg} (h : XgIn w x) (hb : Below w.heap.size w w') : XgIn w' x := ⟨h.le, Lst.below h.at_ hb, h.u32⟩
/-- Its numbers are of their kinds. -/
structure Xg.ok (x : Xg) : Prop where
  w0 : -9223372036854775808 ≤ x.w
  w1 : x.w ≤ 9223372036854775807
/-- Its count of q. -/
def Xg.of (x : Xg) (q : Nat) : Int := x.cnt.getD q 0
theorem Xg.of_bnd {w : World} {x : Xg} (h : XgIn w x) (q : Nat) : 0 ≤ x.of q ∧ x.of q < 4294967296 := by
  unfold Xg.of
  rw [List.getD_eq_getElem?_getD]
  cases hq : x.cnt[q]? with
  | none => exact ⟨Int.le_refl 0, by decide⟩
  | some v => exact h.u32 v (List.mem_of_getElem? hq)
theorem Xg.of_high {w : World} {x : Xg} (h : XgIn w x) (q : Nat) (hq : x.n ≤ q) : x.of q = 0 := by
  unfold Xg.of
  rw [List.getD_eq_getElem?_getD, List.getElem?_eq_none (by rw [h.at_.size]; exact hq)]; rfl

/-- A whole count, and its holder. -/
structure Wh where
  n : Int
  h : Int
/-- Does x have more, or as many and a lesser name? -/
def better (x : Xg) (u : Wh) (q : Nat) : Bool := decide (u.n < x.of q) || (decide (x.of q = u.n) && decide (x.w < u.h))
def wh1 (x : Xg) (u : Wh) (q : Nat) : Wh := if better x u q = true then ⟨x.of q, x.w⟩ else u
/-- x has joined, up to its k-th count. -/
def whK (x : Xg) (f : Nat → Wh) (k : Nat) : Nat → Wh := fun q => if q < k then wh1 x (f q) q else f q
def updW (f : Nat → Wh) (p : Nat) (u : Wh) : Nat → Wh := fun q => if q = p then u else f q
theorem updW_same (f : Nat → Wh) (p : Nat) (u : Wh) : updW f p u p = u := by unfold updW; rw [if_pos rfl]
theorem updW_other (f : Nat → Wh) (p q : Nat) (u : Wh) (h : q ≠ p) : updW f p u q = f q := by unfold updW; rw [if_neg h]
theorem whK_zero (x : Xg) (f : Nat → Wh) : whK x f 0 = f := by funext q; unfold whK; rw [if_neg (by omega)]
theorem whK_yes (x : Xg) (f : Nat → Wh) (k : Nat) (h : better x (f k) k = true) : whK x f (k + 1) = updW (whK x f k) k ⟨x.of k, x.w⟩ := by
  funext q
  unfold whK updW
  by_cases e : q = k
  · subst e; rw [if_pos (by omega), if_pos rfl]; unfold wh1; rw [if_pos h]
  · rw [if_neg e]
    show (if q < k + 1 then wh1 x (f q) q else f q) = (if q < k then wh1 x (f q) q else f q)
    by_cases hq : q < k
    · rw [if_pos (by omega), if_pos hq]
    · rw [if_neg (by omega), if_neg hq]
theorem whK_no (x : Xg) (f : Nat → Wh) (k : Nat) (h : better x (f k) k = false) : whK x f (k + 1) = whK x f k := by
  funext q
  unfold whK
  by_cases e : q = k
  · subst e; rw [if_pos (by omega), if_neg (by omega)]; unfold wh1; rw [if_neg (by rw [h]; decide)]
  · by_cases hq : q < k
    · rw [if_pos (by omega), if_pos hq]
    · rw [if_neg (by omega), if_neg hq]
theorem whK_at (x : Xg) (f : Nat → Wh) (k : Nat) : whK x f k k = f k := by unfold whK; rw [if_neg (by omega)]
theorem snoc_ind {α : Type} {P : List α → Prop} (h0 : P []) (h1 : ∀ l x, P l → P (l ++ [x])) : ∀ l, P l := by
  intro l
  have key : ∀ n, ∀ l : List α, l.length = n → P l := by
    intro n
    induction n with
    | zero => intro l hl; rw [List.eq_nil_of_length_eq_zero hl]; exact h0
    | succ n ih =>
      intro l hl
      have hne : l ≠ [] := by intro e; rw [e] at hl; cases hl
      rw [← List.dropLast_concat_getLast hne]
      exact h1 _ _ (ih _ (by rw [List.length_dropLast, hl]; rfl))
  exact key _ l rfl
/-- What has been told of the whole counts is sound. -/
structure WhOk (f : Nat → Wh) : Prop where
  lo : ∀ q, 0 ≤ (f q).n ∧ (f q).n < 4294967296
  ho : ∀ q, 0 ≤ (f q).h ∧ (f q).h < 64
  no : ∀ q, (f q).n = 0 → (f q).h = 0
def whZ : Nat → Wh := fun _ => ⟨0, 0⟩
theorem WhOk.start : WhOk whZ := ⟨fun _ => ⟨Int.le_refl 0, (by decide : (0 : Int) < 4294967296)⟩, fun _ => ⟨Int.le_refl 0, (by decide : (0 : Int) < 64)⟩, fun _ _ => rfl⟩
/-- The whole of x has joined. -/
def whX (x : Xg) (f : Nat → Wh) : Nat → Wh := fun q => if q < 64 then wh1 x (f q) q else f q
theorem better_high {x : Xg} {f : Nat → Wh} (hf : WhOk f) (hw : 0 ≤ x.w) (q : Nat) (h : x.of q = 0) : better x (f q) q = false := by
  unfold better
  rw [h]
  have h1 := hf.lo q
  have h2 := hf.ho q
  have h3 := hf.no q
  by_cases e : (0 : Int) = (f q).n
  · rw [decide_eq_false (by omega), decide_eq_true e, decide_eq_false (by have := h3 e.symm; omega)]; rfl
  · rw [decide_eq_false (by omega), decide_eq_false e]; rfl
theorem whX_of {w : World} {x : Xg} {f : Nat → Wh} (hx : XgIn w x) (hf : WhOk f) (hw : 0 ≤ x.w) (k : Nat) (hk : k = min x.n 64) : whK x f k = whX x f := by
  funext q
  unfold whK whX
  by_cases h : q < k
  · rw [if_pos h, if_pos (by omega)]
  · rw [if_neg h]
    split
    · unfold wh1
      rw [if_neg]
      rw [better_high hf hw q (x.of_high hx q (by omega))]; decide
    · rfl
theorem WhOk.step {w : World} {x : Xg} {f : Nat → Wh} (hf : WhOk f) (hx : XgIn w x) (hw : 0 ≤ x.w) (hw2 : x.w < 64) (k : Nat) : WhOk (whK x f k) := by
  have key : ∀ q, whK x f k q = f q ∨ (whK x f k q = ⟨x.of q, x.w⟩ ∧ better x (f q) q = true) := by
    intro q
    unfold whK wh1
    split
    · split
      · exact .inr ⟨rfl, by assumption⟩
      · exact .inl rfl
    · exact .inl rfl
  refine ⟨fun q => ?_, fun q => ?_, fun q => ?_⟩
  · rcases key q with e | ⟨e, _⟩
    · rw [e]; exact hf.lo q
    · rw [e]; exact x.of_bnd hx q
  · rcases key q with e | ⟨e, _⟩
    · rw [e]; exact hf.ho q
    · rw [e]; exact ⟨hw, hw2⟩
  · rcases key q with e | ⟨e, h⟩
    · rw [e]; exact hf.no q
    · rw [e]
      intro h0
      simp only at h0
      rw [better_high hf hw q h0] at h
      cases h

/-- A plan: the companions, the whole counts, the boundary. -/
structure Pn where
  cs : Nat
  f : Nat → Wh
  bd : K
/-- The companions' whole counts. -/
def whL (C : List Xg) : Nat → Wh := C.foldl (fun f x => whX x f) whZ
theorem whL_snoc (C : List Xg) (x : Xg) : whL (C ++ [x]) = whX x (whL C) := by unfold whL; rw [List.foldl_append]; rfl
def csL (C : List Xg) : Nat := ofl (C.map Xg.w)
theorem csL_snoc (C : List Xg) (x : Xg) : csL (C ++ [x]) = any (csL C) (onl x.w) := by unfold csL; rw [List.map_append]; exact (ofl_snoc _ _).symm
def sameOld (a b : Xg) : Bool := decide (a.oe = b.oe) && decide (a.op = b.op)
/-- Who comes of the configuration of y. -/
def compL (y : Xg) (l : List Xg) : List Xg := l.filter fun x => sameOld x y
/-- The plan of some companions. -/
def planL (C : List Xg) : Pn := ⟨csL C, whL C, lastK (C.map Xg.k)⟩
theorem csL_lt (C : List Xg) : csL C < 18446744073709551616 := ofl_lt _
/-- Are these exchanges each of another process? -/
structure Apart (l : List Xg) : Prop where
  in_ : ∀ x ∈ l, 0 ≤ x.w ∧ x.w < 64
  nd : (l.map Xg.w).Nodup
theorem WhOk.list {w : World} : ∀ (C : List Xg), (∀ x ∈ C, XgIn w x ∧ 0 ≤ x.w ∧ x.w < 64) → WhOk (whL C) := by
  intro C
  refine snoc_ind (P := fun C => (∀ x ∈ C, XgIn w x ∧ 0 ≤ x.w ∧ x.w < 64) → WhOk (whL C)) (fun _ => WhOk.start) (fun C x ih h => ?_) C
  rw [whL_snoc]
  obtain ⟨h1, h2, h3⟩ := h x (by simp)
  have := ih fun y hy => h y (by simp [hy])
  rw [← whX_of h1 this h2 _ rfl]
  exact this.step h1 h2 h3 _
/-- What the whole count of q is, by its words. -/
structure WhIs (C : List Xg) (q : Nat) (u : Wh) : Prop where
  top : ∀ x ∈ C, x.of q ≤ u.n
  is : u.n = 0 ∨ ∃ x ∈ C, x.of q = u.n ∧ x.w = u.h
  least : 0 < u.n → ∀ x ∈ C, x.of q = u.n → u.h ≤ x.w
theorem whL_is {w : World} (C : List Xg) (hC : ∀ x ∈ C, XgIn w x ∧ 0 ≤ x.w ∧ x.w < 64) (q : Nat) (hq : q < 64) : WhIs C q (whL C q) := by
  revert hC
  refine snoc_ind (P := fun C => (∀ x ∈ C, XgIn w x ∧ 0 ≤ x.w ∧ x.w < 64) → WhIs C q (whL C q)) (fun _ => ⟨fun x hx => (by cases hx), .inl rfl, fun _ x hx => (by cases hx)⟩) (fun C x ih h => ?_) C
  have hC : ∀ y ∈ C, XgIn w y ∧ 0 ≤ y.w ∧ y.w < 64 := fun y hy => h y (by simp [hy])
  have h1 := ih hC
  have hok := WhOk.list C hC
  rw [whL_snoc]
  obtain ⟨hx1, hx2, hx3⟩ := h x (by simp)
  have hb := x.of_bnd hx1 q
  have hl := hok.lo q
  unfold whX wh1
  rw [if_pos hq]
  generalize whL C q = u at *
  obtain ⟨t1, t2, t3⟩ := h1
  cases hbt : better x u q with
  | true =>
    rw [if_pos rfl]
    unfold better at hbt
    simp only [Bool.or_eq_true, Bool.and_eq_true, decide_eq_true_eq] at hbt
    refine ⟨fun y hy => ?_, .inr ⟨x, by simp, rfl, rfl⟩, fun h0 y hy hyn => ?_⟩
    · rcases List.mem_append.1 hy with hy | hy
      · have := t1 y hy; simp only; omega
      · rw [List.mem_singleton.1 hy]; exact Int.le_refl _
    · rcases List.mem_append.1 hy with hy | hy
      · simp only at hyn h0 ⊢
        have := t1 y hy
        rcases hbt with e | ⟨e, e2⟩
        · omega
        · have := t3 (by omega) y hy (by omega)
          omega
      · rw [List.mem_singleton.1 hy]; exact Int.le_refl _
  | false =>
    rw [if_neg (by decide)]
    unfold better at hbt
    simp only [Bool.or_eq_false_iff, Bool.and_eq_false_iff, decide_eq_false_iff_not] at hbt
    refine ⟨fun y hy => ?_, t2.imp id fun ⟨y, hy, e⟩ => ⟨y, by simp [hy], e⟩, fun h0 y hy hyn => ?_⟩
    · rcases List.mem_append.1 hy with hy | hy
      · exact t1 y hy
      · rw [List.mem_singleton.1 hy]; omega
    · rcases List.mem_append.1 hy with hy | hy
      · exact t3 h0 y hy hyn
      · rw [List.mem_singleton.1 hy] at hyn ⊢
        rcases hbt.2 with e | e
        · exact absurd hyn e
        · omega
/-- The holder that is told: -1, if none has any. -/
def holdP (f : Nat → Wh) (q : Int) : Int := if 0 ≤ q ∧ q < 64 then (if (f q.toNat).n = 0 then -1 else (f q.toNat).h) else -1
def wholeP (f : Nat → Wh) (q : Int) : Int := if 0 ≤ q ∧ q < 64 then (f q.toNat).n else 0

/-- Does one count? -/
def countsP (f : Nat → Wh) (m : Mg) : Prop := 0 ≤ m.f ∧ m.f < 64 ∧ 1 ≤ m.q ∧ m.q ≤ (f m.f.toNat).n
/-- A message's number at a place of its Deps. -/
def depAt (m : Mg) (p : Int) : Int := if 0 ≤ p then m.deps.getD p.toNat 0 else 0
/-- What is given up, by the document's words. -/
inductive Given (f : Nat → Wh) (rest : List Mg) : Mg → Prop
  | deps (m : Mg) (hm : m ∈ rest) (hc : countsP f m) (q : Nat) (d : Int) (hd : m.deps[q]? = some d) (h : 64 ≤ q ∧ 0 < d ∨ q < 64 ∧ (f q).n < d) : Given f rest m
  | same (m x : Mg) (hm : m ∈ rest) (hc : countsP f m) (hx : Given f rest x) (h1 : x.f = m.f) (h2 : x.q ≤ m.q) : Given f rest m
  | lean (m x : Mg) (hm : m ∈ rest) (hc : countsP f m) (hx : Given f rest x) (h : x.q ≤ depAt m x.f) : Given f rest m
theorem Given.mem {f : Nat → Wh} {rest : List Mg} {m : Mg} (h : Given f rest m) : m ∈ rest := by cases h <;> assumption
theorem Given.counts {f : Nat → Wh} {rest : List Mg} {m : Mg} (h : Given f rest m) : countsP f m := by cases h <;> assumption
/-- Is it kept? -/
noncomputable def keptB (f : Nat → Wh) (rest : List Mg) (m : Mg) : Bool := @decide (countsP f m ∧ ¬ Given f rest m) (Classical.propDecidable _)
theorem kept_iff {f : Nat → Wh} {rest : List Mg} {m : Mg} : keptB f rest m = true ↔ countsP f m ∧ ¬ Given f rest m := by unfold keptB; exact @decide_eq_true_iff _ (Classical.propDecidable _)
/-- What is kept. -/
noncomputable def keepL (f : Nat → Wh) (rest : List Mg) : List Mg := rest.filter (keptB f rest)
theorem keep_mem {f : Nat → Wh} {rest : List Mg} {m : Mg} : m ∈ keepL f rest ↔ m ∈ rest ∧ countsP f m ∧ ¬ Given f rest m := by
  unfold keepL; rw [List.mem_filter, kept_iff]
/-- The ends: where each process's messages end. -/
def endAt (e : Nat → Int) (p : Int) : Int := if 0 ≤ p ∧ p < 64 then e p.toNat else 1
def aheadE (e : Nat → Int) (m : Mg) : Bool := decide (0 < m.q) && decide (m.q < endAt e m.f)
def leantE (e : Nat → Int) (deps : List Int) : Prop := ∃ (q : Nat) (d : Int), deps[q]? = some d ∧ endAt e (q : Int) ≤ d
/-- Ends that come of nothing but what is given up. -/
structure EndOk (f : Nat → Wh) (rest : List Mg) (e : Nat → Int) : Prop where
  is : ∀ q, q < 64 → e q = (f q).n + 1 ∨ ∃ m, Given f rest m ∧ m.f = (q : Int) ∧ m.q = e q
  le : ∀ q, q < 64 → e q ≤ (f q).n + 1
  lo : ∀ q, q < 64 → 1 ≤ e q
def end0 (f : Nat → Wh) : Nat → Int := fun q => (f q).n + 1
theorem EndOk.start {f : Nat → Wh} (hf : WhOk f) (rest : List Mg) : EndOk f rest (end0 f) := ⟨fun q hq => .inl rfl, fun q hq => Int.le_refl _, fun q hq => by have := hf.lo q; unfold end0; omega⟩
def updE (e : Nat → Int) (p : Nat) (v : Int) : Nat → Int := fun q => if q = p then v else e q
theorem ahead_in {f : Nat → Wh} {rest : List Mg} {e : Nat → Int} (h : EndOk f rest e) {m : Mg} (ha : aheadE e m = true) : countsP f m ∧ m.q < e m.f.toNat := by
  unfold aheadE endAt at ha
  simp only [Bool.and_eq_true, decide_eq_true_eq] at ha
  split at ha
  · have h1 := h.le m.f.toNat (by omega)
    exact ⟨⟨by omega, by omega, by omega, by omega⟩, ha.2⟩
  · omega
theorem EndOk.given {f : Nat → Wh} {rest : List Mg} {e : Nat → Int} (h : EndOk f rest e) {x : Mg} (hx : countsP f x) (hn : e x.f.toNat ≤ x.q) (hm : x ∈ rest) : Given f rest x := by
  obtain ⟨h0, h1, h2, h3⟩ := hx
  rcases h.is x.f.toNat (by omega) with e1 | ⟨y, hy, hf, hq⟩
  · omega
  · exact .same x y hm ⟨h0, h1, h2, h3⟩ hy (by omega) (by omega)
theorem EndOk.turn {f : Nat → Wh} {rest : List Mg} {e : Nat → Int} (h : EndOk f rest e) {m : Mg} (hm : m ∈ rest) (ha : aheadE e m = true) (hl : leantE e m.deps) : EndOk f rest (updE e m.f.toNat m.q) ∧ m.q < e m.f.toNat ∧ 0 ≤ m.f ∧ m.f < 64 ∧ Given f rest m := by
  obtain ⟨hc, hq⟩ := ahead_in h ha
  have hg : Given f rest m := by
    obtain ⟨q, d, hd, hle⟩ := hl
    unfold endAt at hle
    by_cases h64 : q < 64
    · rw [if_pos (by omega)] at hle
      rw [show ((q : Int)).toNat = q by omega] at hle
      rcases h.is q h64 with e1 | ⟨y, hy, hf, hq⟩
      · exact .deps m hm hc q d hd (.inr ⟨h64, by omega⟩)
      · refine .lean m y hm hc hy ?_
        unfold depAt
        rw [hf, if_pos (by omega), show ((q : Int)).toNat = q by omega, List.getD_eq_getElem?_getD, hd]
        show y.q ≤ d
        omega
    · rw [if_neg (by omega)] at hle
      exact .deps m hm hc q d hd (.inl ⟨by omega, by omega⟩)
  obtain ⟨c0, c1, c2, c3⟩ := hc
  refine ⟨⟨fun q hq2 => ?_, fun q hq2 => ?_, fun q hq2 => ?_⟩, hq, c0, c1, hg⟩
  · unfold updE
    by_cases e1 : q = m.f.toNat
    · rw [if_pos e1]; exact .inr ⟨m, hg, by omega, rfl⟩
    · rw [if_neg e1]; exact h.is q hq2
  · unfold updE
    by_cases e1 : q = m.f.toNat
    · rw [if_pos e1]; subst e1; have := h.le _ hq2; omega
    · rw [if_neg e1]; exact h.le q hq2
  · unfold updE
    by_cases e1 : q = m.f.toNat
    · rw [if_pos e1]; exact c2
    · rw [if_neg e1]; exact h.lo q hq2
/-- No end comes nearer. -/
def EndFix (rest : List Mg) (e : Nat → Int) : Prop := ∀ m ∈ rest, aheadE e m = true → ¬ leantE e m.deps
theorem end_given {f : Nat → Wh} {rest : List Mg} {e : Nat → Int} (h : EndOk f rest e) (hx : EndFix rest e) {m : Mg} (hg : Given f rest m) : e m.f.toNat ≤ m.q := by
  have key : ∀ m, m ∈ rest → countsP f m → (leantE e m.deps) → e m.f.toNat ≤ m.q := by
    intro m hm ⟨c0, c1, c2, c3⟩ hl
    by_cases hlt : m.q < e m.f.toNat
    · exfalso
      refine hx m hm ?_ hl
      unfold aheadE endAt
      rw [if_pos ⟨c0, c1⟩, decide_eq_true (show 0 < m.q by omega), decide_eq_true hlt]; rfl
    · omega
  induction hg with
  | deps m hm hc q d hd hb =>
    refine key m hm hc ⟨q, d, hd, ?_⟩
    unfold endAt
    rcases hb with ⟨h1, h2⟩ | ⟨h1, h2⟩
    · rw [if_neg (by omega)]; omega
    · rw [if_pos (by omega), show ((q : Int)).toNat = q by omega]
      have := h.le q h1
      omega
  | same m x hm hc hgx h1 h2 ih => rw [h1] at ih; omega
  | lean m x hm hc hgx hle ih =>
    have hcx := hgx.counts
    obtain ⟨d0, d1, d2, d3⟩ := hcx
    refine key m hm hc ?_
    unfold depAt at hle
    rw [if_pos d0, List.getD_eq_getElem?_getD] at hle
    cases hd : m.deps[x.f.toNat]? with
    | none => rw [hd] at hle; simp only [Option.getD_none] at hle; omega
    | some d =>
      rw [hd] at hle
      simp only [Option.getD_some] at hle
      refine ⟨x.f.toNat, d, hd, ?_⟩
      unfold endAt
      rw [show ((x.f.toNat : Nat) : Int) = x.f by omega, if_pos ⟨d0, d1⟩]
      omega
/-- What stands ahead of its end is what is kept. -/
theorem ahead_kept {f : Nat → Wh} {rest : List Mg} {e : Nat → Int} (h : EndOk f rest e) (hx : EndFix rest e) {m : Mg} (hm : m ∈ rest) : aheadE e m = true ↔ countsP f m ∧ ¬ Given f rest m := by
  constructor
  · intro ha
    obtain ⟨hc, hq⟩ := ahead_in h ha
    refine ⟨hc, fun hg => ?_⟩
    have := end_given h hx hg
    omega
  · rintro ⟨hc, hn⟩
    obtain ⟨c0, c1, c2, c3⟩ := id hc
    unfold aheadE endAt
    rw [if_pos ⟨c0, c1⟩, decide_eq_true (show 0 < m.q by omega), decide_eq_true]
    · rfl
    · by_cases hlt : m.q < e m.f.toNat
      · exact hlt
      · exact absurd (h.given hc (by omega) hm) hn
theorem keep_ends {f : Nat → Wh} {rest : List Mg} {e : Nat → Int} (h : EndOk f rest e) (hx : EndFix rest e) : rest.filter (aheadE e) = keepL f rest := by
  unfold keepL
  refine List.filter_congr fun m hm => ?_
  have := ahead_kept h hx hm
  cases ha : aheadE e m with
  | true => rw [kept_iff.2 (this.1 ha)]
  | false =>
    cases hk : keptB f rest m with
    | false => rfl
    | true => rw [this.2 (kept_iff.1 hk)] at ha; cases ha
/-- How far the ends are, all together: each turn brings it nearer. -/
def sumE (e : Nat → Int) : Nat → Nat
  | 0 => 0
  | k + 1 => sumE e k + (e k).toNat
theorem sumE_same (e : Nat → Int) (p : Nat) (v : Int) : ∀ k, k ≤ p → sumE (updE e p v) k = sumE e k
  | 0, _ => rfl
  | k + 1, h => by
    have := sumE_same e p v k (by omega)
    unfold sumE
    rw [this]
    unfold updE
    rw [if_neg (by omega)]
theorem sumE_upd (e : Nat → Int) (p : Nat) (v : Int) (h0 : 0 ≤ v) (hv : v < e p) : ∀ k, p < k → sumE (updE e p v) k < sumE e k
  | 0, h => by omega
  | k + 1, h => by
    by_cases e1 : p = k
    · subst e1
      have := sumE_same e p v p (Nat.le_refl p)
      unfold sumE
      rw [this]
      unfold updE
      rw [if_pos rfl]
      omega
    · have := sumE_upd e p v h0 hv k (by omega)
      unfold sumE
      have e2 : updE e p v k = e k := by unfold updE; rw [if_neg (by omega)]
      rw [e2]
      omega
end Go.Proofs.YtmaiphgmnammgaaDoor
