/- Vector. -/
import Derived.Test.YtfocjcdfpnbkjaaZSMaps
import Derived.OwnWalk
import Derived.Laws.MakeOwn
import Derived.Test.YtfocjcdfpnbkjaaZHdCopy
import Derived.Test.YtfocjcdfpnbkjaaZHdDrop
set_option linter.unusedVariables false
set_option linter.unusedSimpArgs false
namespace Go.Proofs.Ytfocjcdfpnbkjaa
open Go.RowKit Go.Sort

theorem makesU12 (n : Nat) (hc : n ≤ 1048576) (W : World) :
    (Instr.makeSlice 45 (.int .i64 (n : Int)) (.int .i64 (n : Int))).run Try.prog W = .ok (.slice (some ⟨W.heap.size, 0, none⟩) n n) (W.alloc (.cells (List.replicate n (Value.int .u32 0)).toArray 30)) := by
  obtain ⟨i0, hi, hz0, hz1, hz2⟩ := info_parts info32s
  have h := run_make (P := Try.prog) W 45 30 i0 (.int .u32 0) Try.underlying45 hi hz0 .i64 .i64 (n : Int) (n : Int) (by omega) (by omega) (by rw [hz2]; omega) (by omega)
  have e : madeCells (Value.int .u32 0).cells ((n : Int).toNat * 1) = (List.replicate n (Value.int .u32 0)).toArray := by
    apply Array.ext'
    rw [Int.toNat_natCast, Nat.mul_one]
    exact toList_madeCells_one (.int .u32 0) n
  rw [hz1, e, Int.toNat_natCast] at h
  exact h
/-- How long a vector is. -/
def vecN (n : Int) : Nat := min (max n 0).toNat 64
/-- What Vector answers. -/
def VecSaid (w : World) (c : Nat) (f : Nat → Nat) (e : Ending) (w' : World) : Prop :=
  e = .returned (.slice (some ⟨w.heap.size, 0, none⟩) c c) ∧ (∀ j, j < c → w'.cell? ⟨w.heap.size, j, none⟩ = some (.int .u32 (f j : Int))) ∧ Below w.heap.size w w'
section
variable {w : World} {F : Nat → Prop} {g N : Nat} {lo : Nat → Nat} {sl : Nat → Sl} {X : Nat → List Mg}
end
end Go.Proofs.Ytfocjcdfpnbkjaa

/- A hold, told without where its messages lie: the calls. -/
set_option linter.unusedVariables false
set_option linter.unusedSimpArgs false
namespace Go.Proofs.Ytfocjcdfpnbkjaa
open Go.RowKit Go.Sort

/-- What a hold has: how many were dropped, and those behind them, of each process. -/
structure Hs where
  lo : Nat → Nat
  R : Nat → List Mg
def hs0 : Hs := ⟨fun _ => 0, fun _ => []⟩
def Hs.cnt (S : Hs) (p : Nat) : Nat := S.lo p + (S.R p).length
def putCode (S : Hs) (m : Mg) : Int := if 0 ≤ m.f ∧ m.f < 64 then (if m.q = (S.cnt m.f.toNat : Int) + 1 then 0 else 13) else 1
def putS (S : Hs) (m : Mg) : Hs := if 0 ≤ m.f ∧ m.f < 64 then (if m.q = (S.cnt m.f.toNat : Int) + 1 then ⟨S.lo, updF S.R m.f.toNat (S.R m.f.toNat ++ [strip m])⟩ else S) else S
def dropN (S : Hs) (k upto : Nat) : Nat := min (upto - S.lo k) (S.R k).length
def dropS (S : Hs) (p : Int) (upto : Nat) : Hs := if 0 ≤ p ∧ p < 64 then ⟨updF S.lo p.toNat (S.lo p.toNat + dropN S p.toNat upto), updF S.R p.toNat ((S.R p.toNat).drop (dropN S p.toNat upto))⟩ else S
theorem updF_self {α : Type} (f : Nat → α) (p : Nat) : updF f p (f p) = f := by
  funext q; unfold updF; split
  · rename_i e; rw [e]
  · rfl
structure HRep (w : World) (F : Nat → Prop) (g N : Nat) (S : Hs) : Prop where
  ex : ∃ sl X, HAt w F g N S.lo sl X ∧ ∀ p, (X p).map strip = S.R p
theorem HAt.le {w : World} {F : Nat → Prop} {g N M : Nat} {lo : Nat → Nat} {sl : Nat → Sl} {X : Nat → List Mg} (h : HAt w F g N lo sl X) (hm : N ≤ M) : HAt w F g M lo sl X :=
  ⟨h.own, h.fg, h.lim, h.slot, h.inF, h.apart, h.deps, fun p hp => Nat.le_trans (h.bnd p hp) hm⟩
section
variable {w : World} {F : Nat → Prop} {g N : Nat} {S : Hs}
theorem HRep.kept {w' : World} (h : HRep w F g N S) (hs : w.heap.size ≤ w'.heap.size) (hb : ∀ k, F k → w'.heap[k]? = w.heap[k]?) : HRep w' F g N S := by
  obtain ⟨sl, X, h1, h2⟩ := h.ex
  exact ⟨sl, X, h1.kept hs hb, h2⟩
theorem HRep.below {w' : World} (h : HRep w F g N S) (hb : Below w.heap.size w w') : HRep w' F g N S := by
  obtain ⟨sl, X, h1, h2⟩ := h.ex
  exact ⟨sl, X, h1.below hb, h2⟩
theorem HRep.chg {w' : World} {D : Nat → Prop} (h : HRep w F g N S) (hb : Chg D w w') (hD : ∀ k, F k → ¬ D k) : HRep w' F g N S := by
  obtain ⟨sl, X, h1, h2⟩ := h.ex
  exact ⟨sl, X, h1.chg hb hD, h2⟩
theorem HRep.lim (h : HRep w F g N S) (k : Nat) (hk : F k) : k < w.heap.size := by
  obtain ⟨sl, X, h1, h2⟩ := h.ex
  exact h1.lim k hk
theorem HRep.fg (h : HRep w F g N S) : F g := by
  obtain ⟨sl, X, h1, h2⟩ := h.ex
  exact h1.fg
theorem HRep.le {M : Nat} (h : HRep w F g N S) (hm : N ≤ M) : HRep w F g M S := by
  obtain ⟨sl, X, h1, h2⟩ := h.ex
  exact ⟨sl, X, h1.le hm, h2⟩
theorem HRep.bnd (h : HRep w F g N S) (p : Nat) (hp : p < 64) : S.cnt p ≤ N := by
  obtain ⟨sl, X, h1, h2⟩ := h.ex
  have := h1.bnd p hp
  unfold Hs.cnt
  rw [← h2, List.length_map]
  exact this
theorem HRep.more {E : Nat → Prop} (h : HRep w F g N S) (hE : ∀ k, F k → E k) (hl : ∀ k, E k → k < w.heap.size) : HRep w E g N S := by
  obtain ⟨sl, X, h1, h2⟩ := h.ex
  exact ⟨sl, X, ⟨h1.own, hE _ h1.fg, hl, h1.slot, fun p hp x hx => hE _ (h1.inF p hp x hx), h1.apart, fun p hp x hx => (h1.deps p hp x hx).more fun k _ hk => hE k hk, h1.bnd⟩, h2⟩
theorem hs_low (h : HRep w F g N S) (p : Int) : Calls Try.prog 140 #[.pointer (some ⟨g, 0, none⟩), .int .i64 p] w fun e w' => e = .returned (.int .u32 (onP 0 S.lo p : Nat)) ∧ w = w' := by
  obtain ⟨sl, X, h1, h2⟩ := h.ex
  exact hlow h1 p
theorem hs_count (h : HRep w F g N S) (hN : N ≤ 1000) (p : Int) : Calls Try.prog 120 #[.pointer (some ⟨g, 0, none⟩), .int .i64 p] w fun e w' => e = .returned (.int .u32 (onP 0 S.cnt p : Nat)) ∧ w = w' := by
  obtain ⟨sl, X, h1, h2⟩ := h.ex
  have : cntF S.lo X = S.cnt := by funext p; unfold cntF Hs.cnt; rw [← h2, List.length_map]
  rw [← this]
  exact hcount h1 hN p
theorem onP_map {α β : Type} (f : α → β) (z : α) (X : Nat → α) (p : Int) : onP (f z) (fun p => f (X p)) p = f (onP z X p) := by unfold onP; split <;> rfl
theorem getX_map (lo : Nat) (L : List Mg) (seq : Nat) : getX lo (L.map strip) seq = (getX lo L seq).map strip := by
  unfold getX; split
  · rw [List.getElem?_map]
  · rfl
theorem fromX_map (lo : Nat) (L : List Mg) (seq : Nat) (most : Int) : fromX lo (L.map strip) seq most = (fromX lo L seq most).map strip := by
  unfold fromX; rw [List.map_take, List.map_drop]
theorem R_eq {X : Nat → List Mg} (h2 : ∀ p, (X p).map strip = S.R p) (p : Int) : onP [] S.R p = (onP [] X p).map strip := by
  have : S.R = fun p => (X p).map strip := by funext p; exact (h2 p).symm
  rw [this]
  exact onP_map (List.map strip) [] X p
theorem hs_from (h : HRep w F g N S) (hN : N ≤ 1000) (p : Int) (seq : Nat) (hq : seq < 4294967296) (most : Int) (m0 : -9223372036854775808 ≤ most) (m1 : most ≤ 9223372036854775807) :
    Calls Try.prog 132 #[.pointer (some ⟨g, 0, none⟩), .int .i64 p, .int .u32 (seq : Int), .int .i64 most] w (Hands w (fromX (onP 0 S.lo p) (onP [] S.R p) seq most)) := by
  obtain ⟨sl, X, h1, h2⟩ := h.ex
  rw [R_eq h2 p, fromX_map]
  refine (hfrom h1 hN p seq hq most m0 m1).mono fun e w' hs => ?_
  obtain ⟨s, Y, k1, k2, k3, k4⟩ := hs
  exact ⟨s, Y, k1, k2, by rw [k3, List.map_map]; rfl, k4⟩
theorem R_strip {X : Nat → List Mg} (h2 : ∀ p, (X p).map strip = S.R p) (p : Nat) : (S.R p).map strip = S.R p := by
  rw [← h2 p, List.map_map]; rfl
theorem hs_above (h : HRep w F g N S) (hN : N ≤ 1000) (kk : K) :
    Calls Try.prog 73 #[.pointer (some ⟨g, 0, none⟩), .agg #[.int .u64 kk.n, .int .i64 kk.p]] w (AboveSaid w (catF S.R kk 64)) := by
  obtain ⟨sl, X, h1, h2⟩ := h.ex
  refine (habove h1 hN kk).mono fun e w' hs => ?_
  obtain ⟨s, Y, k1, k2, k3, k4⟩ := hs
  exact ⟨s, Y, k1, k2, by rw [← catF_strip X S.R kk (fun p hp => by rw [R_strip h2, h2]) 64 (Nat.le_refl _)]; exact k3, k4⟩
/-- What Put leaves. -/
def PutSaid (w : World) (F : Nat → Prop) (g N : Nat) (S : Hs) (m : Mg) (e : Ending) (w' : World) : Prop :=
  e = .returned (.int .i64 (putCode S m)) ∧ HRep w' (newF F w w') g (N + 1) (putS S m) ∧ Chg F w w'
theorem hs_put (h : HRep w F g N S) (hN : N ≤ 999) (m : Mg) (q0 : 0 ≤ m.q) (q1 : m.q < 4294967296) (hd : DpIn w m) (hdl : m.dl ≤ 1048576) :
    Calls Try.prog 83 #[.pointer (some ⟨g, 0, none⟩), valG m] w (PutSaid w F g N S m) := by
  have up : ∀ w', Below w.heap.size w w' → HRep w' (newF F w w') g (N + 1) S := fun w' hb => ((h.below hb).le (Nat.le_succ _)).more (fun k hk => .inl hk) fun k hk => by
    rcases hk with hk | hk
    · have := h.lim k hk; have := hb.size; omega
    · exact hk.2
  by_cases hp : 0 ≤ m.f ∧ m.f < 64
  · obtain ⟨k, hk⟩ := Int.eq_ofNat_of_zero_le hp.1
    obtain ⟨n, hn⟩ := Int.eq_ofNat_of_zero_le q0
    have hk64 : k < 64 := by omega
    obtain ⟨sl, X, h1, h2⟩ := h.ex
    have hc : cntF S.lo X k = S.cnt k := by unfold cntF Hs.cnt; rw [← h2, List.length_map]
    obtain ⟨f, q, s, v, a, dl, dc, deps, text⟩ := m
    simp only at hp hk hn q0 q1 hdl
    subst hk hn
    by_cases hno : n = S.cnt k + 1
    · have e1 : putCode S ⟨(k : Int), (n : Int), s, v, a, dl, dc, deps, text⟩ = 0 := by unfold putCode; rw [if_pos hp]; simp only [Int.toNat_natCast]; rw [if_pos (by omega)]
      have e2 : putS S ⟨(k : Int), (n : Int), s, v, a, dl, dc, deps, text⟩ = ⟨S.lo, updF S.R k (S.R k ++ [strip ⟨(k : Int), (n : Int), s, v, a, dl, dc, deps, text⟩])⟩ := by unfold putS; rw [if_pos hp]; simp only [Int.toNat_natCast]; rw [if_pos (by omega)]
      refine (hput_ok h1 hN k hk64 n (by rw [hc]; exact hno) s v a dl dc deps text hd hdl).mono fun e w' hs => ?_
      obtain ⟨k1, s', x, k2, k3, k4⟩ := hs
      refine ⟨by rw [e1]; exact k1, ?_, k3⟩
      rw [e2]
      refine ⟨_, _, k2, fun p => ?_⟩
      by_cases e : p = k
      · subst e
        simp only [updF_same, List.map_append, h2, List.map_cons, List.map_nil, k4]
      · simp only [updF_other _ _ _ _ e]
        exact h2 p
    · have e1 : putCode S ⟨(k : Int), (n : Int), s, v, a, dl, dc, deps, text⟩ = 13 := by unfold putCode; rw [if_pos hp]; simp only [Int.toNat_natCast]; rw [if_neg (by omega)]
      have e2 : putS S ⟨(k : Int), (n : Int), s, v, a, dl, dc, deps, text⟩ = S := by unfold putS; rw [if_pos hp]; simp only [Int.toNat_natCast]; rw [if_neg (by omega)]
      refine (hput_order h1 (by omega) k hk64 n (by omega) (by rw [hc]; exact hno) s v a dl dc deps text).mono fun e w' hs => ?_
      exact ⟨by rw [e1]; exact hs.1, by rw [e2]; exact up w' hs.2, Chg.of_below hs.2⟩
  · have e1 : putCode S m = 1 := by unfold putCode; rw [if_neg hp]
    have e2 : putS S m = S := by unfold putS; rw [if_neg hp]
    refine (hput_range g m hp w).mono fun e w' hs => ?_
    exact ⟨by rw [e1]; exact hs.1, by rw [e2]; exact up w' hs.2, Chg.of_below hs.2⟩
/-- What Drop leaves. -/
def DropSaid (w : World) (F : Nat → Prop) (g N : Nat) (S : Hs) (p : Int) (upto : Nat) (e : Ending) (w' : World) : Prop :=
  e = .returned (.tuple #[]) ∧ HRep w' F g N (dropS S p upto) ∧ Chg F w w'
theorem hs_drop (h : HRep w F g N S) (hN : N ≤ 1000) (p : Int) (upto : Nat) (hu : upto < 4294967296) :
    Calls Try.prog 87 #[.pointer (some ⟨g, 0, none⟩), .int .i64 p, .int .u32 (upto : Int)] w (DropSaid w F g N S p upto) := by
  rcases proc_cases p with ⟨k, rfl, hk⟩ | hp
  · obtain ⟨sl, X, h1, h2⟩ := h.ex
    have hl : (S.R k).length = (X k).length := by rw [← h2, List.length_map]
    have e0 : dropS S (k : Int) upto = ⟨updF S.lo k (S.lo k + dropN S k upto), updF S.R k ((S.R k).drop (dropN S k upto))⟩ := by unfold dropS; rw [if_pos (by omega)]; simp only [Int.toNat_natCast]
    by_cases hlo : upto ≤ S.lo k
    · have hz : dropN S k upto = 0 := by unfold dropN; omega
      have e1 : dropS S (k : Int) upto = S := by rw [e0, hz, Nat.add_zero, List.drop_zero, updF_self, updF_self]
      refine (hdrop_low h1 k hk upto hlo).mono fun e w' hs => ?_
      obtain ⟨k1, rfl⟩ := hs
      exact ⟨k1, by rw [e1]; exact h, Chg.refl _ _⟩
    · refine (hdrop_ok h1 hN k hk upto (by omega) hu (dropN S k upto) (by unfold dropN; rw [hl])).mono fun e w' hs => ?_
      obtain ⟨k1, s', k2, k3⟩ := hs
      refine ⟨k1, ?_, k3⟩
      rw [e0]
      refine ⟨_, _, k2, fun p => ?_⟩
      by_cases e : p = k
      · subst e
        simp only [updF_same, List.map_drop, h2]
      · simp only [updF_other _ _ _ _ e]
        exact h2 p
  · have e1 : dropS S p upto = S := by unfold dropS; rw [if_neg hp]
    refine (hdrop_no g p hp upto w).mono fun e w' hs => ?_
    obtain ⟨k1, rfl⟩ := hs
    exact ⟨k1, by rw [e1]; exact h, Chg.refl _ _⟩
end
theorem hs_new (w : World) : Calls Try.prog 63 #[] w fun e w' => e = .returned (.pointer (some ⟨w.heap.size, 0, none⟩)) ∧ HRep w' (fun k => k = w.heap.size) w.heap.size 0 hs0 ∧ Below w.heap.size w w' :=
  (hnew w).mono fun e w' hs => ⟨hs.1, ⟨_, _, hs.2.1, fun p => rfl⟩, hs.2.2⟩
/-- What Copy answers. -/
def CpSaid (w : World) (N : Nat) (S : Hs) (e : Ending) (w' : World) : Prop := ∃ gc, e = .returned (.pointer (some ⟨gc, 0, none⟩)) ∧ (∃ S', HRep w' (newB w.heap.size w') gc N S' ∧ ∀ p, p < 64 → S'.lo p = S.lo p ∧ S'.R p = S.R p) ∧ Below w.heap.size w w'
theorem hs_copy {w : World} {F : Nat → Prop} {g N : Nat} {S : Hs} (h : HRep w F g N S) (hN : N ≤ 1000) : Calls Try.prog 88 #[.pointer (some ⟨g, 0, none⟩)] w (CpSaid w N S) := by
  obtain ⟨sl, X, h1, h2⟩ := h.ex
  refine (hcopy h1 hN).mono fun e w' hs => ?_
  obtain ⟨gc, sl2, X2, k1, k2, k3, k4⟩ := hs
  exact ⟨gc, k1, ⟨⟨S.lo, fun p => (X2 p).map strip⟩, ⟨sl2, X2, k2, fun p => rfl⟩, fun p hp => ⟨rfl, by rw [← h2]; exact k4 p hp⟩⟩, k3⟩
end Go.Proofs.Ytfocjcdfpnbkjaa
