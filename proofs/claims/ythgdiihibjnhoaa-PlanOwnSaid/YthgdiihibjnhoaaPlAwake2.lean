/- Layer 15: awake: its walk. -/
import Derived.Test.YthgdiihibjnhoaaPlAwake
set_option linter.unusedVariables false
set_option maxRecDepth 100000
set_option linter.unusedSimpArgs false
namespace Go.Proofs.Ythgdiihibjnhoaa
open Go.RowKit Go.Sort Go.Shelf Go.Maps

/-- Lacks, of awake's counts. -/
theorem klack {w : World} {g : Nat} (h : PlB w g ⟨5, kf, ⟨4, 1⟩⟩) (hf : WhOk kf) : Calls Try.prog 9 #[.pointer (some ⟨g, 0, none⟩), .slice (some ⟨w.heap.size, 0, none⟩) 2 2] (w.alloc (.cells #[.int .u32 0, .int .u32 2] 27)) fun e w' => ∃ b c, e = .returned (.slice (some ⟨b, 0, none⟩) 1 c) ∧ w'.cell? ⟨b, 0, none⟩ = some (.int .i64 1) ∧ w'.cell? ⟨b, 1, none⟩ = some (.int .i64 2) ∧ w'.cell? ⟨b, 2, none⟩ = some (.int .u32 3) ∧ w'.cell? ⟨b, 3, none⟩ = some (.int .u32 3) ∧ Below w.heap.size w w' := by
  have hB := ((Grw.refl w).alloc (.cells #[.int .u32 0, .int .u32 2] 27)).below
  have o := Own.new w 27 #[.int .u32 0, .int .u32 2]
  refine (placks (h.below hB) hf (some ⟨w.heap.size, 0, none⟩) 2 2 [0, 2] (lst_own (enc := fun n : Int => [.int .u32 n]) (l := [0, 2]) (fun _ => rfl) o) (fun v hv => by
    rcases List.mem_cons.1 hv with rfl | hv
    · decide
    · rw [List.mem_singleton.1 hv]; decide)).mono fun e w' hs => ?_
  obtain ⟨a, n, c, rfl, hl⟩ := hs
  rw [kgap] at hl
  have hn : n = 1 := hl.len.symm
  subst hn
  have hlst := own_lst' encGp_length hl.len hl.own
  rcases own_cases hl.own with ⟨_, h0⟩ | ⟨b, cap, e1, _, _⟩
  · cases h0
  injection e1 with e2 _ e3
  subst e2
  obtain ⟨b', o', e4, hr⟩ := hlst.src (by decide)
  cases e4
  have c0 := hr 0 _ rfl 0 _ rfl
  have c1 := hr 0 _ rfl 1 _ rfl
  have c2 := hr 0 _ rfl 2 _ rfl
  have c3 := hr 0 _ rfl 3 _ rfl
  exact ⟨b, c, rfl, c0, c1, c2, c3, hB.trans (hl.bel.mono hB.size)⟩
/-- Keep, of awake's messages. -/
theorem kkept {w : World} {g : Nat} (h : PlB w g ⟨5, kf, ⟨4, 1⟩⟩) (hf : WhOk kf) : Calls Try.prog 6 #[.pointer (some ⟨g, 0, none⟩), .slice (some ⟨w.heap.size + 1, 0, none⟩) 2 2] ((w.alloc (.cells #[.int .u32 1] 27)).alloc (.cells #[.int .i64 1, .int .u32 2, .int .u64 0, .int .i64 0, .slice none 0 0, .string { data := #[] }, .int .i64 1, .int .u32 3, .int .u64 0, .int .i64 0, .slice (some ⟨w.heap.size, 0, none⟩) 1 1, .string { data := #[] }] 35)) fun e w' => ∃ a c, e = .returned (.slice a 1 c) ∧ Below w.heap.size w w' := by
  have hB := (((Grw.refl w).alloc (.cells #[.int .u32 1] 27)).alloc (.cells (flat encG [km1, km2 (some ⟨w.heap.size, 0, none⟩)]).toArray 35)).below
  have o1 := Own.new w 27 #[.int .u32 1]
  have o2 := Own.new (w.alloc (.cells #[.int .u32 1] 27)) 35 (flat encG [km1, km2 (some ⟨w.heap.size, 0, none⟩)]).toArray
  rw [show (w.alloc (.cells #[.int .u32 1] 27)).heap.size = w.heap.size + 1 by simp] at o2
  have o1' := o1.below ((Grw.refl _).alloc (.cells (flat encG [km1, km2 (some ⟨w.heap.size, 0, none⟩)]).toArray 35)).below o1.lt
  refine (pkeep (h.below hB) hf (some ⟨w.heap.size + 1, 0, none⟩) 2 2 [km1, km2 (some ⟨w.heap.size, 0, none⟩)] (lst_own encG_length o2) (fun m hm => ?_) (by decide)).mono fun e w' hs => ?_
  · have : m = km1 ∨ m = km2 (some ⟨w.heap.size, 0, none⟩) := by simpa using hm
    rcases this with rfl | rfl
    · exact ⟨of_decide_eq_true rfl, of_decide_eq_true rfl, of_decide_eq_true rfl, of_decide_eq_true rfl, ⟨rfl, fun h0 => absurd h0 (Nat.lt_irrefl 0)⟩, (fun d hd => by cases hd), Nat.zero_le _⟩
    · refine ⟨of_decide_eq_true rfl, of_decide_eq_true rfl, of_decide_eq_true rfl, of_decide_eq_true rfl, lst_own (enc := fun n : Int => [.int .u32 n]) (l := [1]) (fun _ => rfl) o1', fun d hd => ?_, of_decide_eq_true rfl⟩
      rw [List.mem_singleton.1 hd]; decide
  · obtain ⟨a, n, c, X, rfl, ho, hl, hd, hs, hb⟩ := hs
    have hn : n = 1 := by
      have := congrArg List.length hs
      rw [List.length_map, List.length_map] at this
      rw [← hl, this]
      exact congrArg List.length (kkeep _)
    subst hn
    exact ⟨a, c, rfl, hB.trans (hb.mono hB.size)⟩
set_option maxHeartbeats 8000000 in
theorem pawake (w : World) : Calls Try.prog 4 #[] w fun e w' => e = .returned (.bool true) ∧ Below w.heap.size w w' := by
  have P1 := knew w
  unfold kw1 at P1
  have hq := held_gap
  have hq2 := held_key15
  go_enter Try.func4, Try.ntmps4
  go_wp2_with fail
  refine P1.mono ?_
  rintro e w1 ⟨g, rfl, hp, hf, B1⟩
  have HP1 := Lib.hid hp
  have HF := Lib.hid hf
  have HB1 := Lib.hid B1
  have P2 := knew1 w1
  clear P1 hp hf B1
  go_wp2_with fail
  refine P2.mono ?_
  rintro e w2 ⟨rfl, B2⟩
  have HP2 := Lib.hid (HP1.out.below B2)
  have HB2 := Lib.hid (HB1.out.trans (B2.mono HB1.out.size))
  have P3 := klack HP2.out HF.out
  clear P2 B2 HP1 HB1
  go_wp2_with fail
  refine P3.mono ?_
  rintro e w3 ⟨lb, lc, rfl, l0, l1, l2, l3, B3⟩
  have HP3 := Lib.hid (HP2.out.below B3)
  have HB3 := Lib.hid (HB2.out.trans (B3.mono HB2.out.size))
  have P4 := kkept HP3.out HF.out
  have HL := Lib.hid (And.intro l0 (And.intro l1 (And.intro l2 l3)))
  clear P3 B3 HP2 HB2 l0 l1 l2 l3
  go_wp2_with fail
  refine P4.mono ?_
  rintro e w4 ⟨ka, kc, rfl, B4⟩
  have HP4 := Lib.hid (HP3.out.below B4)
  have HB4 := Lib.hid (HB3.out.trans (B4.mono HB3.out.size))
  have l0 := cell_later B4 HL.out.1
  have l1 := cell_later B4 HL.out.2.1
  have l2 := cell_later B4 HL.out.2.2.1
  have l3 := cell_later B4 HL.out.2.2.2
  have PW := pwhole HP4.out 1 (by decide) (by decide)
  have PH := pholder HP4.out 1 (by decide) (by decide)
  rw [show wholeP (⟨5, kf, ⟨4, 1⟩⟩ : Pn).f 1 = 3 from rfl] at PW
  rw [show holdP (⟨5, kf, ⟨4, 1⟩⟩ : Pn).f 1 = 2 from rfl] at PH
  have PC := pcomp HP4.out
  have HI : InI (w4.alloc (.cells #[.int .i64 0, .int .i64 2] 3)) (some ⟨w4.heap.size, 0, none⟩) 2 [0, 2] := ⟨rfl, fun j v hj => ⟨_, rfl, by
    have o := Own.new w4 3 #[.int .i64 0, .int .i64 2]
    match j, hj with
    | 0, hj => cases hj; exact o.at_ 0 _ rfl
    | 1, hj => cases hj; exact o.at_ 1 _ rfl⟩, fun v hv => by
    rcases List.mem_cons.1 hv with rfl | hv
    · decide
    · rw [List.mem_singleton.1 hv]; decide⟩
  have PO := of_any (some ⟨w4.heap.size, 0, none⟩) 2 2 [0, 2] _ HI (by decide)
  rw [kof] at PO
  have L5 := ((Grw.refl w4).alloc (.cells #[.int .i64 0, .int .i64 2] 3)).below
  have PB := pbound (HP4.out.below L5)
  have HB5 := Lib.hid (HB4.out.trans (L5.mono HB4.out.size))
  clear P4 B4 HP3 HB3 HL HI L5
  go_wp2_with (first | (go_at_call 10; (with_reducible refine PW.mono ?_); rintro e w' ⟨rfl, rfl⟩) | (go_at_call 11; (with_reducible refine PH.mono ?_); rintro e w' ⟨rfl, rfl⟩) | (go_at_call 12; (with_reducible refine PC.mono ?_); rintro e w' ⟨rfl, rfl⟩) | fail)
  refine PO.mono ?_
  rintro e w' ⟨rfl, rfl⟩
  clear PW PH PC PO
  go_wp2_with fail
  refine PB.mono ?_
  rintro e w6 ⟨rfl, hG⟩
  clear PB l0 l1 l2 l3
  go_wp2
  go_ret
  exact ⟨rfl, HB5.out.trans (hG.below.mono HB5.out.size)⟩
end Go.Proofs.Ythgdiihibjnhoaa
