/- The document's Take, whole; what stays of its stream behind a call of the program's. -/
import Derived.Test.YtcnfkjjfegjecaaSRTake0
import Derived.Test.YtcnfkjjfegjecaaSAll
set_option linter.unusedVariables false
set_option linter.unusedSimpArgs false
namespace Go.Proofs.Ytcnfkjjfegjecaa
open Go.RowKit Go.Sort Go.Maps

theorem rtake_any {w : World} {B : Nat} {S : Sm Mg} {ho : Option Addr} {hc : Nat} (hl : LikeAt w (newB B) ho S.held) (hc0 : ho = none → hc = 0) (hcl : S.held.length ≤ hc) (hI : SmInv sqG S) (m : Mg) (q0 : 0 ≤ m.q) (q1 : m.q < 4294967296) (hd : DpOff w (newB B) m) (hft : Fits S.held) (hB : B ≤ w.heap.size) (hcc : S.count ≤ 1000000) :
    Calls Try.prog 12 #[.agg #[.int .i64 (S.size : Int), .int .u32 (S.count : Int), .slice ho S.held.length hc], .agg #[.int .i64 m.f, .int .u32 m.q, .int .u64 m.s, .int .i64 m.v, .slice m.a m.dl m.dc, .string m.text]] w (RTook w B (takeS sqG S m) (outS sqG S m) (codeS sqG S m)) := by
  obtain ⟨f, q, s, v, a, dl, dc, deps, text⟩ := m
  obtain ⟨n, rfl⟩ : ∃ n : Nat, q = (n : Int) := ⟨q.toNat, by simp only at q0; omega⟩
  simp only at q0 q1
  have hsq : sqG ⟨f, (n : Int), s, v, a, dl, dc, deps, text⟩ = n := by unfold sqG; simp
  have hn4 : n < 4294967296 := by omega
  have hs1 := hI.s1
  have hs2 := hI.s2
  have hcode : codeS sqG S ⟨f, (n : Int), s, v, a, dl, dc, deps, text⟩ = if n = 0 then 1 else if n ≤ S.count ∨ (getS sqG S.held n).isSome = true then 12 else if S.count + S.size < n then 6 else 0 := by
    unfold codeS
    rw [hsq]
  have herr : ∀ k, k ≠ 0 → codeS sqG S ⟨f, (n : Int), s, v, a, dl, dc, deps, text⟩ = k → outS sqG S ⟨f, (n : Int), s, v, a, dl, dc, deps, text⟩ = [] ∧ takeS sqG S ⟨f, (n : Int), s, v, a, dl, dc, deps, text⟩ = S := fun k hk hc => by
    have h0 : codeS sqG S ⟨f, (n : Int), s, v, a, dl, dc, deps, text⟩ ≠ 0 := by rw [hc]; exact hk
    exact ⟨if_neg h0, if_neg h0⟩
  by_cases h0 : n = 0
  · rw [if_pos h0] at hcode
    obtain ⟨e1, e2⟩ := herr 1 (by decide) hcode
    rw [e1, e2, hcode]
    exact rtake_1 _ _ _ rfl rfl hl hc0 hcl hI f s v a dl dc deps text hn4 hd hft hB hcc h0
  · rw [if_neg h0] at hcode
    by_cases h1 : n ≤ S.count
    · rw [if_pos (.inl h1)] at hcode
      obtain ⟨e1, e2⟩ := herr 12 (by decide) hcode
      rw [e1, e2, hcode]
      exact rtake_12a _ _ _ rfl rfl hl hc0 hcl hI f s v a dl dc deps text hn4 hd hft hB hcc h0 h1
    · cases hx : idxS S.held n with
      | some i =>
        obtain ⟨m2, _, _, hg, _⟩ := idxS_some hx
        rw [if_pos (.inr (by rw [hg]; rfl))] at hcode
        obtain ⟨e1, e2⟩ := herr 12 (by decide) hcode
        rw [e1, e2, hcode]
        exact rtake_12b _ _ _ rfl rfl hl hc0 hcl hI f s v a dl dc deps text hn4 hd hft hB hcc h0 h1 i (by unfold idxI; rw [hx])
      | none =>
        have hg := idxS_none.1 hx
        have hi : idxI S.held n = -1 := by unfold idxI; rw [hx]
        rw [if_neg (by rw [hg]; simp; omega)] at hcode
        by_cases h3 : S.count + S.size < n
        · rw [if_pos h3] at hcode
          obtain ⟨e1, e2⟩ := herr 6 (by decide) hcode
          rw [e1, e2, hcode]
          exact rtake_6 _ _ _ rfl rfl hl hc0 hcl hI f s v a dl dc deps text hn4 hd hft hB hcc h0 h1 hi (by omega) (by omega) (by omega) hcc
        · rw [if_neg h3] at hcode
          rw [hcode]
          exact rtake_0 _ _ _ rfl rfl hl hc0 hcl hI f s v a dl dc deps text hn4 hd hft hB hcc h0 h1 hi (by omega) (by omega) (by omega) hcc _ _ rfl rfl hcode
/-- Behind a call of the program's the document's rows stand. -/
theorem LikeAt.mv {w w' : World} {B g b sz c n : Nat} {H : Nat → Option Mg} {ho : Option Addr} {l : List Mg} (h : LikeAt w (newB B) ho l) (hS : SmB w g b sz c H n) (m : Mv g b w w') (hg : B ≤ g) (hb : B ≤ b) : LikeAt w' (newB B) ho l := by
  obtain ⟨L, hL, hl, hE⟩ := h
  refine ⟨L, ⟨hL.size, fun h0 => ?_⟩, hl, fun i x y hx hy => ⟨(hE i x y hx hy).1, (hE i x y hx hy).2.kept fun k hk hn => m.block k hk (fun e => hn (by rw [e]; exact hg)) (fun e => hn (by rw [e]; exact hb))⟩⟩
  obtain ⟨k, o, e, R⟩ := hL.src h0
  refine ⟨k, o, e, fun i x hx d v hv => ?_⟩
  have h1 := R i x hx d v hv
  have h5 := R i x hx 5 _ rfl
  have hkg : k ≠ g := by
    rintro rfl
    rw [cell_of_row _ _ _ _ _ _ hS.own.is, Array.getElem?_eq_none (by show 3 ≤ o + i * 6 + 5; omega)] at h5
    cases h5
  have hkb : k ≠ b := by
    rintro rfl
    obtain ⟨D, ⟨es, clock, hm, _⟩, _⟩ := hS.map
    simp [World.cell?, hm] at h5
  exact (World.cell?_of_block (w := w) (m.block k (World.block_lt_of_cell? _ _ h1) hkg hkb)).trans h1
theorem out_sub {S : Sm Mg} (hI : SmInv sqG S) (m : Mg) : ∀ x ∈ outS sqG S m, x ∈ S.held ∨ x = m := by
  intro x hx
  by_cases hc : codeS sqG S m = 0
  · have e : outS sqG S m = (drawnS sqG S m).2.2 := if_pos hc
    rw [e] at hx
    have := ((drawn_ok sqG hI hc).mem x).2 (.inl hx)
    simpa using this
  · have e : outS sqG S m = [] := if_neg hc
    rw [e] at hx
    cases hx
end Go.Proofs.Ytcnfkjjfegjecaa
