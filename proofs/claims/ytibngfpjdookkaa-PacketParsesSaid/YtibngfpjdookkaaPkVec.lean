/- Slices of numbers and of exchanges, as they lie in memory: that came in, and that are a call's own; packets as values. -/
import Derived.Test.YtibngfpjdookkaaRdConf
import Derived.Laws.AppendOwn
set_option linter.unusedVariables false
set_option linter.unusedSimpArgs false
namespace Go.Proofs.Ytibngfpjdookkaa
open Go.RowKit Go.Sort

/-- A slice's head. -/
structure Vc where
  a : Option Addr
  n : Nat
  c : Nat
  deriving Inhabited
def Vc.nil : Vc := ⟨none, 0, 0⟩

/-- A slice that reads as these numbers. -/
structure VecAt (w : World) (v : Vc) (l : List Nat) : Prop where
  len : l.length = v.n
  at_ : ∀ (j x : Nat), l[j]? = some x → ∃ b o, v.a = some ⟨b, o, none⟩ ∧ w.cell? ⟨b, o + j, none⟩ = some (.int .u32 (x : Int))
  words : Words l
  nil : v.a = none → v.n = 0 ∧ v.c = 0
/-- A slice of a call's own: its blocks stand at B or behind. -/
structure OwnVec (B : Nat) (w : World) (v : Vc) (l : List Nat) : Prop where
  len : l.length = v.n
  cells : (v = Vc.nil) ∨ ∃ g cur, v.a = some ⟨g, 0, none⟩ ∧ B ≤ g ∧ Own w g 29 cur ∧ ∀ (j x : Nat), l[j]? = some x → cur[j]? = some (.int .u32 (x : Int))
  words : Words l
theorem VecAt.below {w w' : World} {v : Vc} {l : List Nat} (h : VecAt w v l) (hb : Below w.heap.size w w') : VecAt w' v l :=
  ⟨h.len, fun j x hj => by obtain ⟨b, o, e, hc⟩ := h.at_ j x hj; exact ⟨b, o, e, cell_later hb hc⟩, h.words, h.nil⟩
theorem VecAt.grown {w w' : World} {v : Vc} {l : List Nat} {r : Nat} (h : VecAt w v l) (hg : w.grownBy w' (some r)) (hr : ∀ p, v.a = some p → p.block ≠ r) : VecAt w' v l :=
  ⟨h.len, fun j x hj => by obtain ⟨b, o, e, hc⟩ := h.at_ j x hj; exact ⟨b, o, e, cell_grown_by hg (hr ⟨b, o, none⟩ e) hc⟩, h.words, h.nil⟩
theorem OwnVec.at_ {B : Nat} {w : World} {v : Vc} {l : List Nat} (h : OwnVec B w v l) : VecAt w v l := by
  refine ⟨h.len, fun j x hj => ?_, h.words, fun e => ?_⟩
  · rcases h.cells with rfl | ⟨g, cur, e, _, ho, hc⟩
    · have := h.len
      obtain rfl : l = [] := List.eq_nil_of_length_eq_zero this
      simp at hj
    · exact ⟨g, 0, e, by rw [Nat.zero_add]; exact ho.at_ j _ (hc j x hj)⟩
  · rcases h.cells with rfl | ⟨g, cur, e', _⟩
    · exact ⟨rfl, rfl⟩
    · rw [e] at e'; cases e'
theorem OwnVec.grown {B r : Nat} {w w' : World} {v : Vc} {l : List Nat} (h : OwnVec B w v l) (hg : w.grownBy w' (some r)) (hr : r < B) : OwnVec B w' v l :=
  ⟨h.len, h.cells.imp id fun ⟨g, cur, e, hB, ho, hc⟩ => ⟨g, cur, e, hB, ho.grown hg (by intro e; cases e; omega), hc⟩, h.words⟩
theorem OwnVec.below {B : Nat} {w w' : World} {v : Vc} {l : List Nat} (h : OwnVec B w v l) (hb : Below w.heap.size w w') : OwnVec B w' v l :=
  ⟨h.len, h.cells.imp id fun ⟨g, cur, e, hB, ho, hc⟩ => ⟨g, cur, e, hB, ho.below hb ho.lt, hc⟩, h.words⟩
theorem OwnVec.mono {B B' : Nat} {w : World} {v : Vc} {l : List Nat} (h : OwnVec B w v l) (hB : B' ≤ B) : OwnVec B' w v l :=
  ⟨h.len, h.cells.imp id fun ⟨g, cur, e, hB1, ho, hc⟩ => ⟨g, cur, e, Nat.le_trans hB hB1, ho, hc⟩, h.words⟩
theorem OwnVec.nil (B : Nat) (w : World) : OwnVec B w Vc.nil [] := ⟨rfl, .inl rfl, fun v hv => by cases hv⟩

/-- An exchange's six cells. -/
def encX (x : PX) (v : Vc) : List Value := [.int .i64 x.w, .int .u64 (x.old.e : Int), .int .i64 x.old.r, .slice v.a v.n v.c, .int .u64 (x.ls : Int), .int .i64 x.lf]
structure XsAt (w : World) (v : Vc) (l : List PX) : Prop where
  len : l.length = v.n
  at_ : ∀ (j : Nat) (x : PX), l[j]? = some x → ∃ b o vc, v.a = some ⟨b, o, none⟩ ∧ VecAt w vc x.cnt ∧ ∀ (c : Nat) (u : Value), (encX x vc)[c]? = some u → w.cell? ⟨b, o + j * 6 + c, none⟩ = some u
  nil : v.a = none → v.n = 0 ∧ v.c = 0
structure OwnXs (B : Nat) (w : World) (v : Vc) (l : List PX) : Prop where
  len : l.length = v.n
  cells : (v = Vc.nil) ∨ ∃ g cur, v.a = some ⟨g, 0, none⟩ ∧ B ≤ g ∧ Own w g 50 cur ∧ ∀ (j : Nat) (x : PX), l[j]? = some x → ∃ vc, OwnVec B w vc x.cnt ∧ ∀ (c : Nat) (u : Value), (encX x vc)[c]? = some u → cur[j * 6 + c]? = some u
theorem XsAt.below {w w' : World} {v : Vc} {l : List PX} (h : XsAt w v l) (hb : Below w.heap.size w w') : XsAt w' v l :=
  ⟨h.len, fun j x hj => by obtain ⟨b, o, vc, e, hv, hc⟩ := h.at_ j x hj; exact ⟨b, o, vc, e, hv.below hb, fun c u hu => cell_later hb (hc c u hu)⟩, h.nil⟩
theorem OwnXs.at_ {B : Nat} {w : World} {v : Vc} {l : List PX} (h : OwnXs B w v l) : XsAt w v l := by
  refine ⟨h.len, fun j x hj => ?_, fun e => ?_⟩
  · rcases h.cells with rfl | ⟨g, cur, e, _, ho, hc⟩
    · have := h.len
      obtain rfl : l = [] := List.eq_nil_of_length_eq_zero this
      simp at hj
    · obtain ⟨vc, hv, hu⟩ := hc j x hj
      exact ⟨g, 0, vc, e, hv.at_, fun c u h => by rw [Nat.zero_add]; exact ho.at_ _ _ (hu c u h)⟩
  · rcases h.cells with rfl | ⟨g, cur, e', _⟩
    · exact ⟨rfl, rfl⟩
    · rw [e] at e'; cases e'
theorem OwnXs.grown {B r : Nat} {w w' : World} {v : Vc} {l : List PX} (h : OwnXs B w v l) (hg : w.grownBy w' (some r)) (hr : r < B) : OwnXs B w' v l :=
  ⟨h.len, h.cells.imp id fun ⟨g, cur, e, hB, ho, hc⟩ => ⟨g, cur, e, hB, ho.grown hg (by intro e; cases e; omega), fun j x hj => by obtain ⟨vc, hv, hu⟩ := hc j x hj; exact ⟨vc, hv.grown hg hr, hu⟩⟩⟩
theorem OwnXs.below {B : Nat} {w w' : World} {v : Vc} {l : List PX} (h : OwnXs B w v l) (hb : Below w.heap.size w w') : OwnXs B w' v l :=
  ⟨h.len, h.cells.imp id fun ⟨g, cur, e, hB, ho, hc⟩ => ⟨g, cur, e, hB, ho.below hb ho.lt, fun j x hj => by obtain ⟨vc, hv, hu⟩ := hc j x hj; exact ⟨vc, hv.below hb, hu⟩⟩⟩
theorem OwnXs.mono {B B' : Nat} {w : World} {v : Vc} {l : List PX} (h : OwnXs B w v l) (hB : B' ≤ B) : OwnXs B' w v l :=
  ⟨h.len, h.cells.imp id fun ⟨g, cur, e, hB1, ho, hc⟩ => ⟨g, cur, e, Nat.le_trans hB hB1, ho, fun j x hj => by obtain ⟨vc, hv, hu⟩ := hc j x hj; exact ⟨vc, hv.mono hB, hu⟩⟩⟩
theorem OwnXs.nil (B : Nat) (w : World) : OwnXs B w Vc.nil [] := ⟨rfl, .inl rfl⟩

/-! ### So many of one kind -/
def getMany {α : Type} (g : List UInt8 → Got α) : Nat → List UInt8 → Got (List α)
  | 0, l => .ok ([], l)
  | n + 1, l => andG (g l) fun v r => andG (getMany g n r) fun vs r => .ok (v :: vs, r)
theorem getNs_many : ∀ (n : Nat) (l : List UInt8), getNs n l = getMany (getN 4) n l
  | 0, _ => rfl
  | n + 1, l => by unfold getNs getMany; congr 1; funext v r; rw [getNs_many n r]
theorem getXs_many : ∀ (n : Nat) (l : List UInt8), getXs n l = getMany getX n l
  | 0, _ => rfl
  | n + 1, l => by unfold getXs getMany; congr 1; funext v r; rw [getXs_many n r]
/-- k of them were read, up to there. -/
structure ManyAt {α : Type} (g : List UInt8 → Got α) (l0 : List UInt8) (k : Nat) (vs : List α) (l : List UInt8) : Prop where
  len : vs.length = k
  eq : ∀ m, getMany g (k + m) l0 = andG (getMany g m l) fun ws r => .ok (vs ++ ws, r)
theorem ManyAt.begin {α : Type} (g : List UInt8 → Got α) (l0 : List UInt8) : ManyAt g l0 0 [] l0 := by
  refine ⟨rfl, fun m => ?_⟩
  rw [Nat.zero_add]
  unfold andG
  cases getMany g m l0 with
  | error e => rfl
  | ok p => rfl
theorem ManyAt.step {α : Type} {g : List UInt8 → Got α} {l0 : List UInt8} {k : Nat} {vs : List α} {l : List UInt8} (h : ManyAt g l0 k vs l) {v : α} {r : List UInt8} (hv : g l = .ok (v, r)) : ManyAt g l0 (k + 1) (vs ++ [v]) r := by
  refine ⟨by rw [List.length_append, h.len]; rfl, fun m => ?_⟩
  rw [show k + 1 + m = k + (m + 1) by omega, h.eq]
  show andG (andG (g l) _) _ = _
  rw [hv, andG_ok]
  unfold andG
  cases getMany g m r with
  | error e => rfl
  | ok p => simp
theorem ManyAt.done {α : Type} {g : List UInt8 → Got α} {l0 : List UInt8} {k : Nat} {vs : List α} {l : List UInt8} (h : ManyAt g l0 k vs l) : getMany g k l0 = .ok (vs, l) := by
  have := h.eq 0
  rw [Nat.add_zero] at this
  rw [this]
  show andG (.ok ([], l)) _ = _
  rw [andG_ok, List.append_nil]
theorem ManyAt.error {α : Type} {g : List UInt8 → Got α} {l0 : List UInt8} {k : Nat} {vs : List α} {l : List UInt8} (h : ManyAt g l0 k vs l) {e n : Nat} (hn : k < n) (hv : g l = .error e) : getMany g n l0 = .error e := by
  obtain ⟨m, rfl⟩ : ∃ m, n = k + (m + 1) := ⟨n - k - 1, by omega⟩
  rw [h.eq]
  show andG (andG (g l) _) _ = _
  rw [hv, andG_err, andG_err]

/-- What a reader's small number says. -/
theorem getSm_ok {n m c : Nat} {l : List UInt8} {k : Int} {r : List UInt8} (h : getSm n m c l = .ok (k, r)) : ∃ v : Nat, k = (v : Int) ∧ v ≤ m ∧ getN n l = .ok (v, r) := by
  unfold getSm at h
  obtain ⟨v, r', h1, h2⟩ := andG_iff.1 h
  obtain ⟨h3, h4⟩ := badG_iff.1 h2
  obtain ⟨rfl, rfl⟩ := Prod.mk.injEq .. ▸ (Except.ok.inj h4)
  exact ⟨v, rfl, by omega, h1⟩
/-- .. and what is wrong where it gives up. -/
theorem getSm_err {β : Type} {n m c e : Nat} {l : List UInt8} (h : getSm n m c l = .error e) (f : Nat → List UInt8 → Got β) : (andG (getN n l) fun v r => badG c (m < v) (f v r)) = .error e := by
  unfold getSm at h
  cases hg : getN n l with
  | error x => rw [hg, andG_err] at h; cases h; rfl
  | ok p =>
    obtain ⟨v, r⟩ := p
    rw [hg, andG_ok] at h
    rw [andG_ok]
    unfold badG at h ⊢
    split at h
    · rw [if_pos (by assumption)]; cases h; rfl
    · cases h
end Go.Proofs.Ytibngfpjdookkaa
