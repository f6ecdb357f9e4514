/- A stream as the chapter's words have it: the messages that came in, and Take. -/
import Derived.Test.YtcnfkjjfegjecaaSTake
import Derived.Test.YtcnfkjjfegjecaaStreamMath
set_option linter.unusedVariables false
set_option linter.unusedSimpArgs false
namespace Go.Proofs.Ytcnfkjjfegjecaa
open Go.RowKit Go.Sort Go.Maps

def sqG (m : Mg) : Nat := m.q.toNat
/-- A message whose Deps lie off the blocks of F. -/
structure DpOff (w : World) (F : Nat → Prop) (x : Mg) : Prop where
  deps : DpIn w x
  off : ∀ ad, x.a = some ad → 0 < x.dl → ¬ F ad.block
theorem DpOff.kept {w w' : World} {F : Nat → Prop} {x : Mg} (h : DpOff w F x) (hb : ∀ k, k < w.heap.size → ¬ F k → w'.heap[k]? = w.heap[k]?) : DpOff w' F x := by
  refine ⟨⟨h.deps.size, fun h0 => ?_⟩, h.off⟩
  obtain ⟨k, o, e, R⟩ := h.deps.src h0
  have o1 := h.off _ e h0
  refine ⟨k, o, e, fun i y hy c u hu => ?_⟩
  have h1 := R i y hy c u hu
  exact (World.cell?_of_block (w := w) (hb k (World.block_lt_of_cell? _ _ h1) o1)).trans h1
theorem DpOff.mv {w w' : World} {F : Nat → Prop} {g b : Nat} {x : Mg} (h : DpOff w F x) (hg : F g) (hb : F b) (m : Mv g b w w') : DpOff w' F x :=
  h.kept fun k hk hF => m.block k hk (fun e => hF (e ▸ hg)) (fun e => hF (e ▸ hb))
theorem DpOff.more {w : World} {F F' : Nat → Prop} {x : Mg} (h : DpOff w F x) (hF : ∀ k, F' k → F k ∨ w.heap.size ≤ k) : DpOff w F' x := by
  refine ⟨h.deps, fun ad e h0 hf => ?_⟩
  obtain ⟨k, o, e2, R⟩ := h.deps.src h0
  rw [e] at e2
  injection e2 with e2
  have hl := h.deps.size
  have h1 := R 0 _ (List.getElem?_eq_getElem (by omega)) 0 _ rfl
  have h2 := World.block_lt_of_cell? _ _ h1
  subst e2
  rcases hF _ hf with h3 | h3
  · exact h.off _ e h0 h3
  · simp only at h2 h3; omega
/-- The numbers' list, and what the map has. -/
structure RepF (w : World) (F : Nat → Prop) (L : List Mg) (H : Nat → Option Mg) : Prop where
  no : ∀ k, k < 4294967296 → getS sqG L k = none → H k = none
  yes : ∀ k, k < 4294967296 → ∀ m, getS sqG L k = some m → ∃ x, H k = some x ∧ Like x m ∧ DpOff w F x
theorem RepF.kept {w w' : World} {F : Nat → Prop} {L : List Mg} {H : Nat → Option Mg} (h : RepF w F L H) (hb : ∀ k, k < w.heap.size → ¬ F k → w'.heap[k]? = w.heap[k]?) : RepF w' F L H :=
  ⟨h.no, fun k hk y hy => by obtain ⟨x, h1, h2, h3⟩ := h.yes k hk y hy; exact ⟨x, h1, h2, h3.kept hb⟩⟩
theorem RepF.mv {w w' : World} {F : Nat → Prop} {g b : Nat} {L : List Mg} {H : Nat → Option Mg} (h : RepF w F L H) (hg : F g) (hb : F b) (m : Mv g b w w') : RepF w' F L H :=
  h.kept fun k hk hF => m.block k hk (fun e => hF (e ▸ hg)) (fun e => hF (e ▸ hb))
theorem RepF.more {w : World} {F F' : Nat → Prop} {L : List Mg} {H : Nat → Option Mg} (h : RepF w F L H) (hF : ∀ k, F' k → F k ∨ w.heap.size ≤ k) : RepF w F' L H :=
  ⟨h.no, fun k hk y hy => by obtain ⟨x, h1, h2, h3⟩ := h.yes k hk y hy; exact ⟨x, h1, h2, h3.more hF⟩⟩
theorem RepF.isSome {w : World} {F : Nat → Prop} {L : List Mg} {H : Nat → Option Mg} (h : RepF w F L H) (k : Nat) (hk : k < 4294967296) : (H k).isSome = (getS sqG L k).isSome := by
  cases hg : getS sqG L k with
  | none => rw [h.no k hk hg]
  | some m => obtain ⟨x, h1, _⟩ := h.yes k hk m hg; rw [h1]; rfl
/-- A stream; the blocks of F are those of streams. -/
structure SmRep (w : World) (F : Nat → Prop) (g b : Nat) (S : Sm Mg) : Prop where
  fg : F g
  fb : F b
  lim : ∀ k, F k → k < w.heap.size
  ex : ∃ H, SmB w g b S.size S.count H S.held.length ∧ RepF w F S.held H
theorem SmRep.lt {w : World} {F : Nat → Prop} {g b : Nat} {S : Sm Mg} (h : SmRep w F g b S) : g < w.heap.size ∧ b < w.heap.size := by
  obtain ⟨H, hS, _⟩ := h.ex
  exact hS.lt
theorem SmRep.ne {w : World} {F : Nat → Prop} {g b : Nat} {S : Sm Mg} (h : SmRep w F g b S) : g ≠ b := by
  obtain ⟨H, hS, _⟩ := h.ex
  exact hS.ne
theorem SmRep.below {w w' : World} {F : Nat → Prop} {g b : Nat} {S : Sm Mg} (h : SmRep w F g b S) (hb : Below w.heap.size w w') : SmRep w' F g b S := by
  obtain ⟨H, hS, hR⟩ := h.ex
  exact ⟨h.fg, h.fb, fun k hk => Nat.lt_of_lt_of_le (h.lim k hk) hb.size, H, hS.below hb, hR.kept fun k hk _ => hb.block k hk⟩
theorem SmRep.more {w : World} {F F' : Nat → Prop} {g b : Nat} {S : Sm Mg} (h : SmRep w F g b S) (hF : ∀ k, F k → F' k) (hF' : ∀ k, F' k → k < w.heap.size) (w0 : World) (hw : Below w0.heap.size w0 w) (h0 : SmRep w0 F g b S) (hn : ∀ k, F' k → F k ∨ w0.heap.size ≤ k) : SmRep w F' g b S := by
  obtain ⟨H, hS, hR⟩ := h0.ex
  exact ⟨hF _ h.fg, hF _ h.fb, hF', H, hS.below hw, (hR.more hn).kept fun k hk _ => hw.block k hk⟩
/-- Messages handed out: a row of the call's own. -/
def OutAt (w : World) (F : Nat → Prop) (base : Nat) (ao : Option Addr) (cap : Nat) (l : List Mg) : Prop :=
  ∃ L : List Mg, w.ownsRow base 37 6 (.slice ao l.length cap) l.length (flat encG L) ∧ L.length = l.length ∧ ∀ (i : Nat) (x m : Mg), L[i]? = some x → l[i]? = some m → Like x m ∧ DpOff w F x
def TookPost (w : World) (F : Nat → Prop) (g b : Nat) (S : Sm Mg) (m : Mg) (e : Ending) (w' : World) : Prop :=
  ∃ (ao : Option Addr) (cap : Nat), e = .returned (.tuple #[.slice ao (outS sqG S m).length cap, .int .i64 (codeS sqG S m : Int)]) ∧ SmRep w' F g b (takeS sqG S m) ∧ OutAt w' F w.heap.size ao cap (outS sqG S m) ∧ Mv g b w w'
theorem codeF_eq {w : World} {F : Nat → Prop} {S : Sm Mg} {H : Nat → Option Mg} (h : RepF w F S.held H) (m : Mg) (hq : sqG m < 4294967296) : codeF S.size S.count H (sqG m) = codeS sqG S m := by
  unfold codeF codeS
  rw [h.isSome _ hq]
theorem took_err {w w' : World} {F : Nat → Prop} {g b : Nat} {S : Sm Mg} (h : SmRep w F g b S) (m : Mg) {k : Nat} (hk : k ≠ 0) (hc : codeS sqG S m = k) {e : Ending} (he : e = errT k) (hG : Grw w w') : TookPost w F g b S m e w' := by
  have h0 : codeS sqG S m ≠ 0 := by rw [hc]; exact hk
  have e1 : outS sqG S m = [] := if_neg h0
  have e2 : takeS sqG S m = S := if_neg h0
  refine ⟨none, 0, ?_, ?_, ⟨[], ?_, ?_, ?_⟩, .grw hG⟩
  · rw [e1, hc]; exact he
  · rw [e2]; exact h.below hG.below
  · rw [e1]; exact World.ownsRow_nil _ _ _ _
  · rw [e1]
  · intro i x y hx; simp at hx
theorem took_ok {w w' : World} {F : Nat → Prop} {g b : Nat} {S : Sm Mg} {H : Nat → Option Mg} (hfg : F g) (hfb : F b) (hlim : ∀ k, F k → k < w.heap.size) (hS : SmB w g b S.size S.count H S.held.length) (hR : RepF w F S.held H) (hI : SmInv sqG S) (m : Mg) (hq : sqG m < 4294967296) (hc : codeS sqG S m = 0) (hcc : S.count + S.held.length + 2 < 4294967296) {e : Ending}
    (ht : TakePost w g b S.size S.count S.held.length H m (sqG m) e w') : TookPost w F g b S m e w' := by
  obtain ⟨w1, x, k, ao, cap, rfl, CO, M1, k', L, ao', cap', he, hL, hk, hit, hst, S2, O2, M2⟩ := ht
  injection he with he
  injection he with he1 he2 he3
  subst he1 he2 he3
  obtain ⟨z1, z2, z3⟩ := (codeS_zero sqG).1 hc
  have hlt := hS.lt
  have hnd : ((S.held ++ [m]).map sqG).Nodup := by
    rw [List.map_append, List.nodup_append]
    refine ⟨hI.nodup, by simp, fun a ha b hb e => ?_⟩
    obtain ⟨y, hy, rfl⟩ := List.mem_map.1 ha
    have hb : b = sqG m := by simpa using hb
    exact ((getS_none sqG _ _).1 z3) y hy (e.trans hb)
  have R1 : RepF w1 F (S.held ++ [m]) (setF H (sqG m) (some x)) := by
    have R0 := hR.mv hfg hfb M1
    refine ⟨fun j hj hn => ?_, fun j hj y hy => ?_⟩
    · rw [getS_append] at hn
      cases hg : getS sqG S.held j with
      | some y => rw [hg] at hn; cases hn
      | none =>
        rw [hg] at hn
        by_cases ej : sqG m = j
        · simp [ej] at hn
        · rw [setF_other _ _ _ (fun e => ej e.symm)]; exact R0.no j hj hg
    · rw [getS_append] at hy
      cases hg : getS sqG S.held j with
      | some y' =>
        rw [hg] at hy
        injection hy with hy
        subst hy
        have ej : j ≠ sqG m := by rintro rfl; rw [z3] at hg; cases hg
        rw [setF_other _ _ _ ej]
        exact R0.yes j hj y' hg
      | none =>
        rw [hg] at hy
        by_cases ej : sqG m = j
        · simp only [ej, if_true] at hy
          injection hy with hy
          subst hy ej
          exact ⟨x, setF_same _ _ _, CO.like, CO.deps, fun ad e _ hf => by have := CO.new ad e; have := hlim _ hf; omega⟩
        · simp [ej] at hy
  have D := drawn_ok sqG hI hc
  have et : takeS sqG S m = ⟨S.size, (drawnS sqG S m).1, (drawnS sqG S m).2.1⟩ := if_pos hc
  have eo : outS sqG S m = (drawnS sqG S m).2.2 := if_pos hc
  generalize drawnS sqG S m = r at D et eo
  have hmlen : (S.held ++ [m]).length = S.held.length + 1 := by simp
  have hDl := D.len
  rw [hmlen] at hDl
  have hat : ∀ y, y ∈ S.held ++ [m] → getS sqG (S.held ++ [m]) (sqG y) = some y := fun y hy => getS_mem sqG hnd hy
  have hkl : r.2.2.length = k := by
    rcases Nat.lt_trichotomy r.2.2.length k with e | e | e
    · exfalso
      obtain ⟨z, _, hz⟩ := hit _ e
      have hn : getS sqG (S.held ++ [m]) (S.count + 1 + r.2.2.length) ≠ none := fun hn => by
        rw [R1.no _ (by omega) hn] at hz
        cases hz
      cases hg : getS sqG (S.held ++ [m]) (S.count + 1 + r.2.2.length) with
      | none => exact hn hg
      | some y =>
        obtain ⟨y1, y2⟩ := getS_some sqG hg
        rcases (D.mem y).1 y1 with hy | hy
        · obtain ⟨i, hi, rfl⟩ := List.mem_iff_getElem.1 hy
          have := D.seqs i _ (List.getElem?_eq_getElem hi)
          omega
        · have := (getS_none sqG _ _).1 D.stop y hy
          have := D.count
          omega
    · exact e
    · exfalso
      have hs := D.seqs k _ (List.getElem?_eq_getElem e)
      have hm := (D.mem _).2 (.inl (List.getElem_mem e))
      have hg := hat _ hm
      rw [hs] at hg
      obtain ⟨z, hz, _⟩ := R1.yes _ (by omega) _ hg
      rw [show S.count + 1 + k = S.count + k + 1 by omega, hst] at hz
      cases hz
  have hcnt := D.count
  rw [hkl] at hcnt
  have MM := M1.trans M2
  have R2 := R1.mv hfg hfb M2
  refine ⟨ao, cap, ?_, ⟨hfg, hfb, fun k hk => Nat.lt_of_lt_of_le (hlim k hk) MM.size, cutF (setF H (sqG m) (some x)) S.count k, ?_, ⟨fun j hj hn => ?_, fun j hj y hy => ?_⟩⟩, ⟨L, ?_, ?_, fun i z y hz hy => ?_⟩, MM⟩
  · rw [hc, eo, hkl]; rfl
  · rw [et]
    show SmB w' g b S.size r.1 _ r.2.1.length
    rw [hcnt, show r.2.1.length = S.held.length + 1 - k by omega]
    exact S2
  · rw [et] at hn
    simp only at hn
    unfold cutF
    split
    · rfl
    · rename_i hcut
      cases hg : getS sqG (S.held ++ [m]) j with
      | none => exact R1.no j hj hg
      | some y =>
        exfalso
        obtain ⟨y1, y2⟩ := getS_some sqG hg
        rcases (D.mem y).1 y1 with hy | hy
        · obtain ⟨i, hi, rfl⟩ := List.mem_iff_getElem.1 hy
          have := D.seqs i _ (List.getElem?_eq_getElem hi)
          omega
        · exact (getS_none sqG _ _).1 hn y hy y2
  · rw [et] at hy
    simp only at hy
    obtain ⟨y1, y2⟩ := getS_some sqG hy
    have hap := D.apart y y1
    have hg := hat _ ((D.mem y).2 (.inr y1))
    rw [y2] at hg
    obtain ⟨z, hz, hl, hd⟩ := R2.yes j hj y hg
    refine ⟨z, ?_, hl, hd⟩
    unfold cutF
    rw [if_neg (by omega)]
    exact hz
  · rw [eo, hkl]
    exact own_base O2 M1.size
  · rw [eo, hkl]; exact hL
  · rw [eo] at hy
    have hik : i < k := by have := (List.getElem?_eq_some_iff.1 hy).1; omega
    obtain ⟨z', h1, h2⟩ := hit i hik
    rw [hz] at h1
    injection h1 with h1
    subst h1
    have hs := D.seqs i y hy
    have hg := hat y ((D.mem y).2 (.inl (List.mem_of_getElem? hy)))
    rw [hs] at hg
    obtain ⟨z', h3, h4, h5⟩ := R2.yes _ (by omega) y hg
    rw [h2] at h3
    injection h3 with h3
    subst h3
    exact ⟨h4, h5⟩

/-- Take. -/
theorem stake_any {w : World} {F : Nat → Prop} {g b : Nat} {S : Sm Mg} (h : SmRep w F g b S) (hI : SmInv sqG S) (m : Mg) (hd : DpIn w m) (q0 : 0 ≤ m.q) (q1 : m.q < 4294967296) (hdl : m.dl ≤ 1048576) (hcc : S.count ≤ 1000000) :
    Calls Try.prog 11 #[.pointer (some ⟨g, 0, none⟩), valG m] w (TookPost w F g b S m) := by
  have hfew := hI.few
  obtain ⟨H, hS, hR⟩ := h.ex
  obtain ⟨f, q, s, v, a, dl, dc, deps, text⟩ := m
  obtain ⟨n, rfl⟩ : ∃ n : Nat, q = (n : Int) := ⟨q.toNat, by simp only at q0; omega⟩
  simp only at q0 q1 hdl
  have hsq : sqG ⟨f, (n : Int), s, v, a, dl, dc, deps, text⟩ = n := by unfold sqG; simp
  have hn4 : n < 4294967296 := by omega
  have hcode := codeF_eq hR ⟨f, (n : Int), s, v, a, dl, dc, deps, text⟩ (by rw [hsq]; exact hn4)
  rw [hsq] at hcode
  unfold codeF at hcode
  by_cases h0 : n = 0
  · subst h0
    refine (take_1 hS f s v a dl dc deps text).mono ?_
    rintro e w' ⟨he, hG⟩
    exact took_err h _ (k := 1) (by decide) hcode.symm he hG
  · rw [if_neg h0] at hcode
    by_cases h1 : n ≤ S.count
    · rw [if_pos (.inl h1)] at hcode
      refine (take_12a hS f s v n a dl dc deps text h0 h1).mono ?_
      rintro e w' ⟨he, hG⟩
      exact took_err h _ (k := 12) (by decide) hcode.symm he hG
    · cases hH : H n with
      | some y =>
        have h2 : (H n).isSome = true := by rw [hH]; rfl
        rw [if_pos (.inr h2)] at hcode
        refine (take_12b hS f s v n a dl dc deps text h0 h1 hn4 h2).mono ?_
        rintro e w' ⟨he, hG⟩
        exact took_err h _ (k := 12) (by decide) hcode.symm he hG
      | none =>
        rw [if_neg (by rw [hH]; simp; omega)] at hcode
        by_cases h3 : S.count + S.size < n
        · rw [if_pos h3] at hcode
          refine (take_6 hS f s v n a dl dc deps text h0 h1 hn4 hH h3).mono ?_
          rintro e w' ⟨he, hG⟩
          exact took_err h _ (k := 6) (by decide) hcode.symm he hG
        · rw [if_neg h3] at hcode
          refine (take_0 hS f s v n a dl dc deps text h0 h1 hn4 hH h3 hd hdl (by omega) (by omega)).mono ?_
          intro e w' ht
          exact took_ok h.fg h.fb h.lim hS hR hI _ (by rw [hsq]; exact hn4) hcode.symm (by omega) (by rw [hsq]; exact ht)
/-- New. -/
def newS (n : Int) : Sm Mg := ⟨szN n, 0, []⟩
theorem newS_inv (n : Int) : SmInv sqG (newS n) := new_inv sqG n
def Two10 (g b : Nat) : Nat → Prop := fun k => k = g ∨ k = b
theorem snew_any (n : Int) (w : World) (h0 : -9223372036854775808 ≤ n) (h1 : n ≤ 9223372036854775807) :
    Calls Try.prog 9 #[.int .i64 n] w fun e w' => e = .returned (.pointer (some ⟨w.heap.size + 1, 0, none⟩)) ∧ SmRep w' (Two10 (w.heap.size + 1) w.heap.size) (w.heap.size + 1) w.heap.size (newS n) ∧ Below w.heap.size w w' :=
  (snew n w h0 h1).mono fun _ w' ⟨h1, h2, h3⟩ => ⟨h1, ⟨.inl rfl, .inr rfl, fun k hk => by
    have := h2.lt
    rcases hk with rfl | rfl
    · exact this.1
    · exact this.2, _, h2, ⟨fun _ _ _ => rfl, fun k _ m hm => by cases hm⟩⟩, h3⟩
theorem scount_any {w : World} {F : Nat → Prop} {g b : Nat} {S : Sm Mg} (h : SmRep w F g b S) : Calls Try.prog 16 #[.pointer (some ⟨g, 0, none⟩)] w fun e w' => e = .returned (.int .u32 (S.count : Int)) ∧ w = w' := by
  obtain ⟨H, hS, _⟩ := h.ex
  exact scount hS
theorem sheld_any {w : World} {F : Nat → Prop} {g b : Nat} {S : Sm Mg} (h : SmRep w F g b S) : Calls Try.prog 17 #[.pointer (some ⟨g, 0, none⟩)] w fun e w' => e = .returned (.int .i64 (S.held.length : Int)) ∧ w = w' := by
  obtain ⟨H, hS, _⟩ := h.ex
  exact sheld hS
theorem slacks_any {w : World} {F : Nat → Prop} {g b : Nat} {S : Sm Mg} (h : SmRep w F g b S) (u : Nat) (hu : u < 4294967296) : Calls Try.prog 13 #[.pointer (some ⟨g, 0, none⟩), .int .u32 (u : Int)] w fun e w' => e = .returned (.tuple #[.int .u32 (lackN S.count u : Int), .bool (decide (S.count < u))]) ∧ w = w' := by
  obtain ⟨H, hS, _⟩ := h.ex
  exact slacks hS u hu
/-- A stream beside stays. -/
theorem SmRep.beside {w w' : World} {F : Nat → Prop} {g b g' b' : Nat} {S : Sm Mg} (h : SmRep w F g b S) (m : Mv g' b' w w') (hg : F g') (hb : F b') (h1 : g ≠ g') (h2 : g ≠ b') (h3 : b ≠ g') (h4 : b ≠ b') : SmRep w' F g b S := by
  obtain ⟨H, hS, hR⟩ := h.ex
  exact ⟨h.fg, h.fb, fun k hk => Nat.lt_of_lt_of_le (h.lim k hk) m.size, H, hS.beside m h1 h2 h3 h4, hR.mv hg hb m⟩
end Go.Proofs.Ytcnfkjjfegjecaa
