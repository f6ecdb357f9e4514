/- Two ears, of which one is told only of one process: plain facts. -/
import Derived.Test.YtcjbjcojmjfmaaaHeardEpochWalk
set_option linter.unusedVariables false
set_option linter.unusedSimpArgs false
namespace Go.Proofs.Ytcjbjcojmjfmaaa
open Go.RowKit Go.Sort

structure ApI (q : Nat) (E F : Er) : Prop where
  me : E.me = F.me
  ot : E.ot = F.ot
  clock : E.clock = F.clock
  timeout : E.timeout = F.timeout
  same : E.recs q = F.recs q
  never : ∀ p, p ≠ q → (F.recs p).ever = false
theorem ApI.new (q : Nat) (me n t : Int) : ApI q (earN me n t) (earN me n t) := ⟨rfl, rfl, rfl, rfl, rfl, fun p _ => rfl⟩
theorem ApI.tick {q : Nat} {E F : Er} (h : ApI q E F) : ApI q (tickE E) (tickE F) := ⟨h.me, h.ot, by show E.clock + 1 = F.clock + 1; rw [h.clock], h.timeout, h.same, h.never⟩
theorem ApI.upd2 {q : Nat} {E F : Er} (h : ApI q E F) (r : Rc) : ApI q { E with recs := upd E.recs q r } { F with recs := upd F.recs q r } :=
  ⟨h.me, h.ot, h.clock, h.timeout, by show upd E.recs q r q = upd F.recs q r q; rw [upd_same, upd_same], fun p hp => by show (upd F.recs q r p).ever = false; rw [upd_other _ _ _ _ hp]; exact h.never p hp⟩
theorem ApI.upd1 {q : Nat} {E F : Er} (h : ApI q E F) (k : Nat) (hk : q ≠ k) (r : Rc) : ApI q { E with recs := upd E.recs k r } F :=
  ⟨h.me, h.ot, h.clock, h.timeout, by show upd E.recs k r q = F.recs q; rw [upd_other _ _ _ _ hk]; exact h.same, h.never⟩
theorem ApI.hear2 {q : Nat} {E F : Er} (h : ApI q E F) : ApI q (hearE E (q : Int)) (hearE F (q : Int)) := by
  unfold hearE
  rw [h.ot]
  split
  · simp only [Int.toNat_natCast]
    have e : hearR E q = hearR F q := by unfold hearR; rw [h.same, h.clock]
    rw [e]
    have := h.upd2 (hearR F q)
    rw [h.ot] at this
    exact this
  · exact h
theorem ApI.hear1 {q : Nat} {E F : Er} (h : ApI q E F) (p : Int) (hp : p ≠ (q : Int)) : ApI q (hearE E p) F := by
  unfold hearE
  split
  · obtain ⟨k, rfl, hk, hb⟩ := mem_bit ‹_›
    exact h.upd1 k (by omega) _
  · exact h
theorem ApI.beat2 {q : Nat} {E F : Er} (h : ApI q E F) (b : Bt) : ApI q (beatE E (q : Int) b) (beatE F (q : Int) b) := by
  unfold beatE
  rw [h.ot]
  split
  · simp only [Int.toNat_natCast]
    rw [h.clock]
    have := h.upd2 ⟨F.clock, true, b, true⟩
    rw [h.ot] at this
    exact ⟨h.me, rfl, rfl, h.timeout, this.same, this.never⟩
  · exact h
theorem ApI.beat1 {q : Nat} {E F : Er} (h : ApI q E F) (p : Int) (hp : p ≠ (q : Int)) (b : Bt) : ApI q (beatE E p b) F := by
  unfold beatE
  split
  · obtain ⟨k, rfl, hk, hb⟩ := mem_bit ‹_›
    exact h.upd1 k (by omega) _
  · exact h
theorem goneR_ever (r : Rc) : (goneR r).ever = r.ever := rfl
theorem ApI.forget {q : Nat} {E F : Er} (h : ApI q E F) (hq : q < 64) (s : Nat) : ApI q (forgetE E s) (forgetE F (both s (onl (q : Int)))) := by
  have e : (both s (onl (q : Int))).testBit q = s.testBit q := by
    unfold both; rw [num_bit, onl_bit _ _ hq]; simp [hq]
  refine ⟨h.me, h.ot, h.clock, h.timeout, ?_, fun p hp => ?_⟩
  · show goneF E.recs s.testBit q = goneF F.recs (both s (onl (q : Int))).testBit q
    unfold goneF
    rw [e, h.same]
  · show (goneF F.recs (both s (onl (q : Int))).testBit p).ever = false
    unfold goneF
    split
    · rw [goneR_ever]; exact h.never p hp
    · exact h.never p hp
theorem ApI.of {q : Nat} {E F : Er} (h : ApI q E F) : ofB E (q : Int) = ofB F (q : Int) ∧ ofO E (q : Int) = ofO F (q : Int) := by
  unfold ofB ofO
  simp only [Int.toNat_natCast]
  rw [h.ot, h.same]
  exact ⟨rfl, rfl⟩
theorem ApI.reach {q : Nat} {E F : Er} (h : ApI q E F) (hq : q < 64) : mem (reachE E) (q : Int) = mem (reachE F) (q : Int) := by
  rw [mem_nat _ _ hq, mem_nat _ _ hq, reach_bit _ _ hq, reach_bit _ _ hq]
  unfold reachB
  rw [h.me, h.same, h.clock, h.timeout]
theorem ApI.in_ {q : Nat} {E F : Er} (h : ApI q E F) (hq : q < 64) : inn (reachE F) (ofl [F.me, (q : Int)]) = true := by
  unfold inn
  have : but (reachE F) (ofl [F.me, (q : Int)]) = 0 := by
    refine set_ext _ _ (but_lt _ _) (by decide) fun i hi => ?_
    unfold but
    rw [num_bit, reach_bit _ _ hi]
    unfold ofl
    rw [num_bit]
    by_cases e1 : (i : Int) = F.me
    · simp [hi, e1]
    · by_cases e2 : i = q
      · subst e2; simp [hi]
      · have := h.never i e2
        unfold reachB
        rw [this]
        simp [e1]
  rw [this]
  rfl
theorem clock_hear (E : Er) (p : Int) : (hearE E p).clock = E.clock := by unfold hearE; split <;> rfl
theorem clock_beat (E : Er) (p : Int) (b : Bt) : (beatE E p b).clock = E.clock := by unfold beatE; split <;> rfl
theorem InI.two (w : World) (y z : Int) (y0 : -9223372036854775808 ≤ y) (y1 : y ≤ 9223372036854775807) (h0 : -9223372036854775808 ≤ z) (h1 : z ≤ 9223372036854775807) : InI (w.alloc (.cells #[.int .i64 y, .int .i64 z] 3)) (some ⟨w.heap.size, 0, none⟩) 2 [y, z] := ⟨rfl, fun j v hj => ⟨_, rfl, by
    rcases j with _ | _ | j
    · simp at hj; subst hj; simp [Addr.add]
    · simp at hj; subst hj; simp [Addr.add]
    · simp at hj⟩, fun v hv => by simp at hv; omega⟩
end Go.Proofs.Ytcjbjcojmjfmaaa
