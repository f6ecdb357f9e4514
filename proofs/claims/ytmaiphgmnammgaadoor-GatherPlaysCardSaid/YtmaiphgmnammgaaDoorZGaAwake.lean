/- Layer 16: awake: answers that the document fixes. -/
import Derived.Test.YtmaiphgmnammgaaDoorZGaCopy
import Derived.Test.YtmaiphgmnammgaaDoorZGaFails
import Derived.Test.YtmaiphgmnammgaaDoorZGrKit
set_option linter.unusedVariables false
set_option maxRecDepth 100000
set_option linter.unusedSimpArgs false
namespace Go.Proofs.YtmaiphgmnammgaaDoor
open Go.RowKit Go.Sort Go.Maps

/-- An attempt that was made since w0. -/
structure GtN (w0 w : World) (g mb : Nat) (S : Gt) : Prop where
  at_ : GtB w g mb S
  g0 : w0.heap.size ≤ g
  m0 : w0.heap.size ≤ mb
  bel : Below w0.heap.size w0 w
theorem GtN.later {w0 w w' : World} {g mb : Nat} {S : Gt} (h : GtN w0 w g mb S) (hb : Below w.heap.size w w') : GtN w0 w' g mb S :=
  ⟨h.at_.later hb, h.g0, h.m0, h.bel.trans (hb.mono h.bel.size)⟩
theorem GtN.act {w0 w w' : World} {g mb : Nat} {S S' : Gt} {b : Bool} {e : Ending} (h : GtN w0 w g mb S) (ha : Acted w g mb S' b e w') : GtN w0 w' g mb S' :=
  ⟨ha.2.1, h.g0, h.m0, h.bel.trans (ha.2.2.below h.bel.size fun k hk => by rcases hk with rfl | rfl; exact h.g0; exact h.m0)⟩
theorem add_yes {S : Gt} {x : Xg} (h : freshG S x.w = true) : addG S x = { S with H := setI S.H x.w (some x), n := S.n + 1 } := by unfold addG; rw [if_pos h]
/-! ### The example -/
def kH0 : Int → Option Xg := fun _ => none
def kS (y : Nat) (H : Int → Option Xg) (n : Nat) : Gt := ⟨3, 0, 3, y, H, n⟩
theorem kcard : card 3 = 2 := by decide +kernel
theorem klst : lst 3 = [0, 1] := by decide +kernel
theorem kready0 (z : Int) : readyG (kS 0 kH0 0) z = kS 0 kH0 0 ∧ readyB (kS 0 kH0 0) z = false := by
  have : readyOk (kS 0 kH0 0) z = false := by
    unfold readyOk toldG
    rw [show decide ((kS 0 kH0 0).n = card (kS 0 kH0 0).M) = false from decide_eq_false (by show ¬ 0 = card 3; rw [kcard]; decide)]; rfl
  unfold readyG readyB
  rw [this]
  exact ⟨if_neg (by decide), rfl⟩
theorem kadd0 {y : Xg} (hy : y.w = 0) : addG (kS 0 kH0 0) y = kS 0 (setI kH0 0 (some y)) 1 := by
  rw [add_yes (by rw [hy]; decide +kernel), hy]; rfl
theorem kadd0b : addB (kS 0 kH0 0) zeroX = false := by
  unfold addB
  rw [show decide ((kS 0 kH0 0).n + 1 = card (kS 0 kH0 0).M) = false from decide_eq_false (by show ¬ 0 + 1 = card 3; rw [kcard]; decide)]
  simp
def gkx1 : Xg := ⟨1, 0, 0, none, 0, 0, [], ⟨0, 0⟩⟩
theorem kfresh1 (y : Xg) : freshG (kS 0 (setI kH0 0 (some y)) 1) 1 = true := by
  unfold freshG
  show (mem 3 1 && (setI kH0 0 (some y) 1).isNone) = true
  rw [setI_other _ _ _ (by decide)]
  decide +kernel
theorem kadd1 {y z : Xg} (hz : z.w = 1) : addG (kS 0 (setI kH0 0 (some y)) 1) z = kS 0 (setI (setI kH0 0 (some y)) 1 (some z)) 2 := by
  rw [add_yes (by rw [hz]; exact kfresh1 y), hz]; rfl
theorem kadd1b (y : Xg) : addB (kS 0 (setI kH0 0 (some y)) 1) gkx1 = true := by
  unfold addB
  rw [show freshG (kS 0 (setI kH0 0 (some y)) 1) gkx1.w = true from kfresh1 y]
  show (true && decide (1 + 1 = card 3)) = true
  rw [kcard]; rfl
theorem kreadyOk (y : Nat) (H : Int → Option Xg) (z : Int) (h : mem (but 3 y) z = true) : readyOk (kS y H 2) z = true := by
  have ht : toldG (kS y H 2) = true := by unfold toldG; exact decide_eq_true (show 2 = card 3 by rw [kcard])
  unfold readyOk waitG
  rw [ht, if_pos rfl]
  exact h
theorem kready1 (H : Int → Option Xg) : readyG (kS 0 H 2) 1 = kS 2 H 2 ∧ readyB (kS 0 H 2) 1 = false := by
  have h := kreadyOk 0 H 1 (by decide +kernel)
  unfold readyG readyB
  rw [h, if_pos rfl]
  constructor
  · show kS (any 0 (onl 1)) H 2 = kS 2 H 2
    rw [show any 0 (onl 1) = 2 by decide +kernel]
  · show (true && decide (any 0 (onl 1) = 3)) = false
    rw [show any 0 (onl 1) = 2 by decide +kernel]; rfl
theorem kready2 (H : Int → Option Xg) : readyG (kS 2 H 2) 0 = kS 3 H 2 ∧ readyB (kS 2 H 2) 0 = true := by
  have h := kreadyOk 2 H 0 (by decide +kernel)
  unfold readyG readyB
  rw [h, if_pos rfl]
  constructor
  · show kS (any 2 (onl 0)) H 2 = kS 3 H 2
    rw [show any 2 (onl 0) = 3 by decide +kernel]
  · show (true && decide (any 2 (onl 0) = 3)) = true
    rw [show any 2 (onl 0) = 3 by decide +kernel]; rfl
theorem kex (Y : Nat) (y z : Xg) : (exL (kS Y (setI (setI kH0 0 (some y)) 1 (some z)) 2)).length = 2 := by
  unfold exL exN
  show ((lst 3).filterMap fun (p : Nat) => setI (setI kH0 0 (some y)) 1 (some z) (p : Int)).length = 2
  rw [klst]
  have h0 : setI (setI kH0 0 (some y)) 1 (some z) ((0 : Nat) : Int) = some y := by rw [show ((0 : Nat) : Int) = 0 from rfl, setI_other _ _ _ (by decide), setI_same]
  have h1 : setI (setI kH0 0 (some y)) 1 (some z) ((1 : Nat) : Int) = some z := setI_same _ _ _
  simp only [List.filterMap_cons, List.filterMap_nil, h0, h1]; rfl
theorem kx_in (w : World) (x : Xg) (ha : x.a = none) (hn : x.n = 0) (hc : x.cnt = []) (h0 : x.w = 0 ∨ x.w = 1) : XI w x :=
  ⟨(by rw [ha, hn, hc]; exact ⟨rfl, fun h => by omega⟩), (by omega), (by rw [hc]; intro v hv; cases hv), ⟨by omega, by omega⟩⟩
theorem kfail1 : badC 3 ⟨3, 0⟩ 1 ⟨3, 1⟩ = true := by decide +kernel
theorem kfail2 (k : Int) (c : K) (h : setI (setI (fun _ => none) 1 (some (⟨3, 0⟩ : K))) 2 (some ⟨9, 0⟩) k = some c) : badC 3 ⟨3, 0⟩ k c = false := by
  by_cases e2 : k = 2
  · subst e2; rw [setI_same] at h; injection h with h; subst h; decide +kernel
  · rw [setI_other _ _ _ e2] at h
    by_cases e1 : k = 1
    · subst e1; rw [setI_same] at h; injection h with h; subst h; decide +kernel
    · rw [setI_other _ _ _ e1] at h; cases h
theorem held_conf16 : Tryd.prog.stoodInHeld 24 = false := by kernel_rfl
set_option maxHeartbeats 4000000 in
theorem gawake (w : World) (hT : Tab w) : Calls Tryd.prog 8 #[] w fun e w' => e = .returned (.bool true) ∧ Below w.heap.size w w' := by
  have hmm := @run_makeMap Tryd.prog
  have hq := held_conf16
  have HT := Lib.hid hT
  clear hT
  have HI : InI (w.alloc (.cells #[.int .i64 0, .int .i64 1] 3)) (some ⟨w.heap.size, 0, none⟩) 2 [0, 1] := ⟨rfl, fun j v hj => ⟨_, rfl, by
    have o := Own.new w 3 #[.int .i64 0, .int .i64 1]
    match j, hj with
    | 0, hj => cases hj; exact o.at_ 0 _ rfl
    | 1, hj => cases hj; exact o.at_ 1 _ rfl⟩, fun v hv => by
    rcases List.mem_cons.1 hv with rfl | hv
    · decide
    · rw [List.mem_singleton.1 hv]; decide⟩
  have PO := of_any (some ⟨w.heap.size, 0, none⟩) 2 2 [0, 1] _ HI (by decide)
  rw [show ofl [0, 1] = 3 by decide +kernel] at PO
  have L1 := ((Grw.refl w).alloc (.cells #[.int .i64 0, .int .i64 1] 3)).below
  have PN := gnew 3 0 3 (w.alloc (.cells #[.int .i64 0, .int .i64 1] 3)) (by decide)
  have HB1 := Lib.hid L1
  clear HI L1
  go_enter Tryd.func8, Tryd.ntmps8
  go_wp2_with fail
  refine PO.mono ?_
  rintro e w1 ⟨rfl, rfl⟩
  clear PO
  go_wp2_with fail
  refine PN.mono ?_
  rintro e w2 ⟨g, mb, rfl, hg, hg0, hm0, B2⟩
  have N2 : Hid (GtN w w2 g mb (kS 0 kH0 0)) := Lib.hid (by
    have hs := HB1.out.size
    exact ⟨hg, by omega, by omega, HB1.out.trans (B2.mono HB1.out.size)⟩)
  clear PN hg hg0 hm0 B2 HB1
  have P := gready N2.out.at_ 0 ⟨by decide, by decide⟩
  rw [(kready0 0).1, (kready0 0).2] at P
  go_wp2_with fail
  refine P.mono ?_
  rintro e w3 ha
  obtain ⟨rfl, _, _⟩ := id ha
  have N3 := Lib.hid (N2.out.act ha)
  clear P ha N2
  have P := gadd N3.out.at_ zeroX (kx_in w3 zeroX rfl rfl rfl (.inl rfl))
  change Calls _ _ #[.pointer (some ⟨g, 0, none⟩), .agg #[.int .i64 0, .int .u64 0, .int .i64 0, .slice none 0 0, .int .u64 0, .int .i64 0]] _ _ at P
  go_wp2_with fail
  refine P.mono ?_
  rintro e w4 ⟨y, hst, ha⟩
  rw [kadd0b] at ha
  obtain ⟨rfl, _, _⟩ := id ha
  have N4 := Lib.hid (N3.out.act ha)
  rw [kadd0 (stripX_w hst)] at N4
  clear P ha N3 hst
  have P := gadd N4.out.at_ gkx1 (kx_in w4 gkx1 rfl rfl rfl (.inr rfl))
  change Calls _ _ #[.pointer (some ⟨g, 0, none⟩), .agg #[.int .i64 1, .int .u64 0, .int .i64 0, .slice none 0 0, .int .u64 0, .int .i64 0]] _ _ at P
  go_wp2_with fail
  refine P.mono ?_
  rintro e w5 ⟨z, hst, ha⟩
  rw [kadd1b] at ha
  obtain ⟨rfl, _, _⟩ := id ha
  have N5 := Lib.hid (N4.out.act ha)
  rw [kadd1 (stripX_w hst)] at N5
  clear P ha N4 hst
  have P := gready N5.out.at_ 1 ⟨by decide, by decide⟩
  rw [(kready1 _).1, (kready1 _).2] at P
  go_wp2_with fail
  refine P.mono ?_
  rintro e w6 ha
  obtain ⟨rfl, _, _⟩ := id ha
  have N6 := Lib.hid (N5.out.act ha)
  clear P ha N5
  have P := gready N6.out.at_ 0 ⟨by decide, by decide⟩
  rw [(kready2 _).1, (kready2 _).2] at P
  go_wp2_with fail
  refine P.mono ?_
  rintro e w7 ha
  obtain ⟨rfl, _, _⟩ := id ha
  have N7 := Lib.hid (N6.out.act ha)
  clear P ha N6
  have P := gdone N7.out.at_
  rw [show doneG (kS 3 (setI (setI kH0 0 (some y)) 1 (some z)) 2) = true from decide_eq_true rfl] at P
  go_wp2_with fail
  refine P.mono ?_
  rintro e w8 ⟨rfl, B8⟩
  have N8 := Lib.hid (N7.out.later B8)
  clear P B8 N7
  have P := gid N8.out.at_
  simp only [kS] at P
  go_wp2_with fail
  refine P.mono ?_
  rintro e w9 ⟨rfl, B9⟩
  have N9 := Lib.hid (N8.out.later B9)
  clear P B9 N8
  have P := gexch N9.out.at_
  go_wp2_with fail
  refine P.mono ?_
  rintro e w10 ⟨xa, xn, xc, X, rfl, hex⟩
  have hxn : xn = 2 := by
    have h1 := congrArg List.length hex.str
    rw [List.length_map, List.length_map, kex] at h1
    have := hex.len
    omega
  subst hxn
  have N10 := Lib.hid (N9.out.later hex.bel)
  clear P hex N9
  have PN1 : Calls Tryd.prog 26 #[.agg #[.int .u64 0, .int .i64 0], .int .u64 1, .int .u64 3, .int .u64 0, .int .i64 0] w10 fun e w' => e = .returned (.bool true) ∧ Below w10.heap.size w10 w' := by
    have h := gneeds 0 0 1 3 0 0 w10 (by decide) (by decide) (by decide) (HT.out.below N10.out.bel (Nat.le_refl _))
    rw [show needsB 1 3 0 0 = true by decide +kernel] at h
    exact h
  go_wp2_with fail
  refine PN1.mono ?_
  rintro e w11 ⟨rfl, B11⟩
  have N11 := Lib.hid (N10.out.later B11)
  clear PN1 B11 N10
  have PN2 : Calls Tryd.prog 26 #[.agg #[.int .u64 0, .int .i64 0], .int .u64 3, .int .u64 3, .int .u64 0, .int .i64 0] w11 fun e w' => e = .returned (.bool false) ∧ Below w11.heap.size w11 w' := by
    have h := gneeds 0 0 3 3 0 0 w11 (by decide) (by decide) (by decide) (HT.out.below N11.out.bel (Nat.le_refl _))
    rw [show needsB 3 3 0 0 = false by decide +kernel] at h
    exact h
  go_wp2_with fail
  refine PN2.mono ?_
  rintro e w12 ⟨rfl, B12⟩
  have N12 := Lib.hid (N11.out.later B12)
  clear PN2 B12 N11
  have M13 := MapI.made encCv w12
  have L13 := ((Grw.refl w12).alloc (.map #[] 0)).below
  obtain ⟨w14, hrun14, A14, T14⟩ := M13.store mapC 1 ⟨by decide, by decide⟩ rfl (by decide) (⟨3, 1⟩ : K)
  have N13 := N12.out.later L13
  have B14 : Below w12.heap.size w12 w14 := L13.grown T14.grown L13.size fun k e => by injection e with e; omega
  have N14 := Lib.hid (N12.out.later B14)
  have PF := gfails N14.out.at_ 3 w12.heap.size 1 _ A14
  unfold encCv at hrun14
  clear M13 L13 T14 N13 B14 N12
  go_wp2_with fail
  refine PF.mono ?_
  rintro e w15 ⟨b, rfl, hb, B15⟩
  have hb1 : b = true := hb.2 (.inr ⟨1, ⟨3, 1⟩, setI_same _ _ _, kfail1⟩)
  subst hb1
  have N15 := Lib.hid (N14.out.later B15)
  clear PF hb B15 A14 hrun14 N14
  have M16 := MapI.made encCv w15
  have L16 := ((Grw.refl w15).alloc (.map #[] 0)).below
  obtain ⟨w17, hrun17, A17, T17⟩ := M16.store mapC 1 ⟨by decide, by decide⟩ rfl (by decide) (⟨3, 0⟩ : K)
  obtain ⟨w18, hrun18, A18, T18⟩ := A17.store mapC 2 ⟨by decide, by decide⟩ (by rw [setI_other _ _ _ (by decide)]) (by decide) (⟨9, 0⟩ : K)
  have B17 : Below w15.heap.size w15 w17 := L16.grown T17.grown L16.size fun k e => by injection e with e; omega
  have B18 : Below w15.heap.size w15 w18 := B17.grown T18.grown B17.size fun k e => by injection e with e; omega
  have N18 := Lib.hid (N15.out.later B18)
  have PF := gfails N18.out.at_ 3 w15.heap.size 2 _ A18
  unfold encCv at hrun17 hrun18
  clear M16 L16 T17 T18 B17 B18 A17 N15
  go_wp2_with fail
  refine PF.mono ?_
  rintro e w19 ⟨b, rfl, hb, B19⟩
  have hb1 : b = false := by
    cases b with
    | false => rfl
    | true =>
      exfalso
      rcases hb.1 rfl with h | ⟨k, c, h1, h2⟩
      · exact h rfl
      · have h3 : badC 3 ⟨3, 0⟩ k c = true := h2
        rw [kfail2 k c h1] at h3; cases h3
  subst hb1
  have N19 := Lib.hid (N18.out.later B19)
  clear PF hb B19 A18 hrun17 hrun18 N18
  go_wp2
  go_ret
  exact ⟨rfl, N19.out.bel⟩
end Go.Proofs.YtmaiphgmnammgaaDoor
