/- Clean packets: of their types, small, printed alike, parsed as they are. -/
import Derived.Test.YtibngfpjdookkaaPkPrint
import Derived.Test.YtibngfpjdookkaaPkParse
set_option linter.unusedVariables false
set_option linter.unusedSimpArgs false
namespace Go.Proofs.Ytibngfpjdookkaa
open Go.RowKit Go.Sort

theorem baseP_typed (k f t : Int) : (baseP k f t).typed := by
  refine ⟨?_, ⟨?_, ?_, ?_⟩, ?_, ?_, ?_, ?_, ?_, ?_, ?_, ?_, ?_⟩ <;>
    first
      | (show (0 : Nat) < _; decide)
      | (intro x hx; exact absurd hx (by simp [baseP, noneM]))
theorem setF_typed {f : Fd} {p z : Pk} (hp : p.typed) (hz : z.typed) : (setF f p z).typed := by
  obtain ⟨h1, h2, h3, h4, h5, h6, h7, h8, h9, h10, h11⟩ := hp
  obtain ⟨z1, z2, z3, z4, z5, z6, z7, z8, z9, z10, z11⟩ := hz
  cases f <;> (refine ⟨?_, ?_, ?_, ?_, ?_, ?_, ?_, ?_, ?_, ?_, ?_⟩ <;> first | assumption | exact h2)
theorem setFs_typed {p : Pk} (hp : p.typed) : ∀ (fs : List Fd) {z : Pk}, z.typed → (setFs fs p z).typed
  | [], _, hz => hz
  | f :: fs, _, hz => setFs_typed hp fs (setF_typed hp hz)
theorem clean_typed {p : Pk} (hp : p.typed) : (cleanP p).typed := setFs_typed hp _ (baseP_typed _ _ _)
theorem okF_typed {f : Fd} {p z : Pk} (h : okF f p) (hz : z.typed) : (setF f p z).typed := by
  obtain ⟨z1, z2, z3, z4, z5, z6, z7, z8, z9, z10, z11⟩ := hz
  cases f
  case c => exact ⟨h.1, z2, z3, z4, z5, z6, z7, z8, z9, z10, z11⟩
  case m => exact ⟨z1, ⟨h.1, h.2.1, h.2.2.2.1.2⟩, z3, z4, z5, z6, z7, z8, z9, z10, z11⟩
  case s => exact ⟨z1, z2, h, z4, z5, z6, z7, z8, z9, z10, z11⟩
  case n => exact ⟨z1, z2, z3, h, z5, z6, z7, z8, z9, z10, z11⟩
  case g => exact ⟨z1, z2, z3, z4, h.2, z6, z7, z8, z9, z10, z11⟩
  case h => exact ⟨z1, z2, z3, z4, z5, h, z7, z8, z9, z10, z11⟩
  case w => exact ⟨z1, z2, z3, z4, z5, z6, z7, z8, z9, z10, z11⟩
  case q => exact ⟨z1, z2, z3, z4, z5, z6, h, z8, z9, z10, z11⟩
  case p => exact ⟨z1, z2, z3, z4, z5, z6, z7, z8, h.1, z10, z11⟩
  case e => exact ⟨z1, z2, z3, z4, z5, z6, z7, z8, z9, h, z11⟩
  case b => exact ⟨z1, z2, z3, z4, z5, z6, z7, h, z9, z10, z11⟩
  case x => exact ⟨z1, z2, z3, z4, z5, z6, z7, z8, z9, z10, fun x hx => by have := h.2 x hx; exact ⟨this.2.1.1, this.2.2.1.2, this.2.2.2.1⟩⟩
  case l => exact ⟨z1, z2, z3, z4, z5, z6, z7, z8, z9, z10, fun x hx => by have := h.2 x hx; exact ⟨this.2.1.1, this.2.2.1.2, this.2.2.2.1⟩⟩
theorem okFs_typed {p : Pk} : ∀ (fs : List Fd) {z : Pk}, okFs fs p → z.typed → (setFs fs p z).typed
  | [], _, _, hz => hz
  | f :: fs, _, h, hz => okFs_typed fs h.2 (okF_typed h.1 hz)
theorem ok_typed {q : Pk} (h : okFs (rowP q) q) (hc : cleanP q = q) : q.typed := by
  rw [← hc]; exact okFs_typed _ h (baseP_typed _ _ _)

theorem baseP_small (k f t : Int) : Small (baseP k f t) := ⟨Nat.zero_le _, Nat.zero_le _, Nat.zero_le _, Nat.zero_le _, fun x hx => absurd hx (by simp [baseP])⟩
theorem setF_small {f : Fd} {p z : Pk} (hp : Small p) (hz : Small z) : Small (setF f p z) := by
  obtain ⟨h1, h2, h3, h4, h5⟩ := hp
  obtain ⟨z1, z2, z3, z4, z5⟩ := hz
  cases f <;> (refine ⟨?_, ?_, ?_, ?_, ?_⟩ <;> assumption)
theorem setFs_small {p : Pk} (hp : Small p) : ∀ (fs : List Fd) {z : Pk}, Small z → Small (setFs fs p z)
  | [], _, hz => hz
  | f :: fs, _, hz => setFs_small hp fs (setF_small hp hz)
theorem clean_small {p : Pk} (hp : Small p) : Small (cleanP p) := setFs_small hp _ (baseP_small _ _ _)
theorem okF_small {f : Fd} {p z : Pk} (h : okF f p) (hz : Small z) : Small (setF f p z) := by
  obtain ⟨z1, z2, z3, z4, z5⟩ := hz
  cases f
  case m => exact ⟨Nat.le_trans h.2.2.2.1.1 (by decide), Nat.le_trans h.2.2.2.2 (by decide), z3, z4, z5⟩
  case g => exact ⟨z1, z2, Nat.le_trans h.1 (by decide), z4, z5⟩
  case x => exact ⟨z1, z2, z3, Nat.le_trans (Nat.le_of_eq h.1) (by decide), fun x hx => Nat.le_trans (h.2 x hx).2.2.1.1 (by decide)⟩
  case l => exact ⟨z1, z2, z3, Nat.le_trans h.1 (by decide), fun x hx => Nat.le_trans (h.2 x hx).2.2.1.1 (by decide)⟩
  all_goals exact ⟨z1, z2, z3, z4, z5⟩
theorem okFs_small {p : Pk} : ∀ (fs : List Fd) {z : Pk}, okFs fs p → Small z → Small (setFs fs p z)
  | [], _, _, hz => hz
  | f :: fs, _, h, hz => okFs_small fs h.2 (okF_small h.1 hz)
theorem ok_small {q : Pk} (h : okFs (rowP q) q) (hc : cleanP q = q) : Small q := by
  rw [← hc]; exact okFs_small _ h (baseP_small _ _ _)

theorem errF_set (f : Fd) (p q : Pk) : errF f (setF f p q) = errF f p := by cases f <;> rfl
theorem errFs_of {fs : List Fd} (ha : allApart fs = true) (p q : Pk) : ∀ (js : List Fd), (∀ f ∈ js, f ∈ fs) → errFs js (setFs fs p q) = errFs js p
  | [], _ => rfl
  | j :: js, h => by
    unfold errFs
    rw [errFs_of ha p q js (fun f hf => h f (List.mem_cons_of_mem _ hf)), ← errF_set j (setFs fs p q) q, setF_of ha (h j (List.mem_cons_self ..)), errF_set]
theorem clean_err (p : Pk) : errFs (rowP p) (cleanP p) = errFs (rowP p) p := errFs_of (rowP_apart p) p _ _ fun _ h => h
theorem clean_pcode (p : Pk) : pcodeP (cleanP p) = pcodeP p := by
  unfold pcodeP
  rw [clean_row, clean_err, (clean_head p).1, (clean_head p).2.1, (clean_head p).2.2]
theorem clean_sOf (p : Pk) : sOf (cleanP p) = sOf p := by
  unfold sOf bodyOf
  rw [clean_pcode, clean_row, clean_put, (clean_head p).1, (clean_head p).2.1, (clean_head p).2.2]
theorem pcode_zero {p : Pk} (hp : p.typed) (h : pcodeP p = 0) : fcode p.kind p.frm p.to 0 = 0 ∧ okFs (rowP p) p := by
  unfold pcodeP at h
  by_cases h0 : fcode p.kind p.frm p.to 0 = 0
  · rw [if_neg (by simpa using h0)] at h
    exact ⟨h0, (errFs_iff hp).1 (by omega)⟩
  · rw [if_pos h0] at h
    exact absurd h h0
theorem zero_pcode {p : Pk} (hp : p.typed) (h0 : fcode p.kind p.frm p.to 0 = 0) (ho : okFs (rowP p) p) : pcodeP p = 0 := by
  unfold pcodeP
  rw [if_neg (by simpa using h0), (errFs_iff hp).2 ho]; rfl
theorem bodyOf_list (p : Pk) : (bodyOf p).data.toList = putFs (rowP p) p := rfl
theorem bodyOf_size (p : Pk) : (bodyOf p).size = (putFs (rowP p) p).length := rfl
theorem fcode_len {k f t n m : Int} (h : fcode k f t n = 0) (hm : m ≤ 32768) : fcode k f t m = 0 := by
  have := fcode_may h
  exact fcode_ok (by omega) (by omega) (by omega)
/-- What was printed is parsed as the clean packet. -/
theorem parsed_sOf {p : Pk} (hp : p.typed) (h : pcodeP p = 0) : parsedOf (sOf p) = .ok (cleanP p) := by
  obtain ⟨h0, ho⟩ := pcode_zero hp h
  have hm := fcode_may h0
  have hb := body_length ho
  have hs : sOf p = printz p.kind.toNat p.frm.toNat p.to.toNat (bodyOf p) := by unfold sOf; rw [if_pos h]
  have hk : ((p.kind.toNat : Nat) : Int) = p.kind := by omega
  have hf : ((p.frm.toNat : Nat) : Int) = p.frm := by omega
  have ht : ((p.to.toNat : Nat) : Int) = p.to := by omega
  obtain ⟨p0, p1, p2, p3, p4⟩ := parsed_printz (k := p.kind.toNat) (f := p.frm.toNat) (t := p.to.toNat) (b := bodyOf p) (by rw [hk, hf, ht]; exact fcode_len h0 (by rw [bodyOf_size]; omega))
  unfold parsedOf
  rw [hs, p0, p1, p2, p3, p4, if_neg (by simp), hk, hf, ht, bodyOf_list]
  exact parse_put p ho
theorem sOf_size {p : Pk} (hp : p.typed) : (sOf p).size ≤ 40000 := by
  unfold sOf
  split
  · rename_i h
    have hb := body_length (pcode_zero hp h).2
    rw [printz_size, bodyOf_size]; omega
  · show 0 ≤ 40000; decide
/-- What is parsed is printed as it was. -/
theorem printed_of {k f t : Nat} {s : ByteArray} {q : Pk} (h : fcode k f t s.size = 0) (hq : parsedOf (printz k f t s) = .ok q) :
    q.kind = k ∧ q.frm = f ∧ q.to = t ∧ q.typed ∧ Small q ∧ cleanP q = q ∧ pcodeP q = 0 ∧ sOf q = printz k f t s := by
  obtain ⟨p0, p1, p2, p3, p4⟩ := parsed_printz h
  unfold parsedOf at hq
  rw [p0, p1, p2, p3, p4, if_neg (by simp)] at hq
  obtain ⟨h1, h2, h3, ho, hl, hc⟩ := put_parse hq
  have hty := ok_typed ho hc
  have h0 : pcodeP q = 0 := zero_pcode hty (by rw [h1, h2, h3]; exact fcode_len h (by decide)) ho
  have hb : bodyOf q = s := by
    have e := bodyOf_list q
    rw [← hl] at e
    have : (bodyOf q).data = s.data := Array.ext' e
    cases hB : bodyOf q; cases s; rw [hB] at this; simp only at this; rw [this]
  refine ⟨h1, h2, h3, hty, ok_small ho hc, hc, h0, ?_⟩
  unfold sOf
  rw [if_pos h0, h1, h2, h3, hb]; rfl
end Go.Proofs.Ytibngfpjdookkaa
