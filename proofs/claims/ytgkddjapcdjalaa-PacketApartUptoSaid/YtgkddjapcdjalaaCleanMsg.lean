/- Cleaning a packet: its message, its exchanges. -/
import Derived.Test.YtgkddjapcdjalaaCleanKit
set_option linter.unusedVariables false
set_option linter.unusedSimpArgs false
namespace Go.Proofs.Ytgkddjapcdjalaa
open Go.RowKit Go.Sort

theorem below_set6 {B : Nat} {a w : World} (h : Below B a w) {g : Nat} (hg : B ≤ g) (v0 v1 v2 v3 v4 v5 : Value) : Below B a (set6 w g v0 v1 v2 v3 v4 v5) :=
  (((((h.setCell (p := ⟨g, 0, none⟩) hg v0).setCell (p := ⟨g, 1, none⟩) hg v1).setCell (p := ⟨g, 2, none⟩) hg v2).setCell (p := ⟨g, 3, none⟩) hg v3).setCell (p := ⟨g, 4, none⟩) hg v4).setCell (p := ⟨g, 5, none⟩) hg v5
theorem Own.ne {w : World} {g g' : Nat} {ty ty' : TypeId} {cs cs' : Array Value} (h : Own w g ty cs) (h' : Own w g' ty' cs') (ht : ty ≠ ty') : g ≠ g' := by
  rintro rfl
  have := h.is.symm.trans h'.is
  simp only [Option.some.injEq, Obj.cells.injEq] at this
  exact ht this.2.1
theorem OwnVec.set_x {B : Nat} {w : World} {v : Vc} {l : List Nat} (h : OwnVec B w v l) {g : Nat} {ty : TypeId} {cur : Array Value} (hg : Own w g ty cur) (ht : 29 ≠ ty) (j : Nat) (x : Value) : OwnVec B (w.setCell ⟨g, j, none⟩ x) v l :=
  ⟨h.len, h.cells.imp id fun ⟨g', cur', e, hB, ho, hc⟩ => ⟨g', cur', e, hB, ho.set_other _ _ _ (ho.ne hg ht), hc⟩, h.words⟩
theorem XsCl.step {B : Nat} {w0 : World} {g : Nat} {w w' : World} {ps : List (PX × Vc)} {k : Nat} {cur : Array Value} (h : XsCl B w0 g w ps k cur) {p : PX × Vc} (hp : ps[k]? = some p) {v : Vc} (hb : Below w.heap.size w w') (hv : OwnVec w.heap.size w' v p.1.cnt) (hw0 : B ≤ w.heap.size) :
    XsCl B w0 g (w'.setCell ⟨g, k * 6 + 3, none⟩ (.slice v.a v.n v.c)) ps (k + 1) (cur.setIfInBounds (k * 6 + 3) (.slice v.a v.n v.c)) := by
  have hrow : Own w' g 50 cur := h.row.below hb h.row.lt
  have hsz := h.size
  have hkl := (List.getElem?_eq_some_iff.1 hp).1
  refine ⟨hrow.set _ _, h.ge, (h.bel.trans (hb.mono hw0)).setCell h.ge _, by rw [Array.size_setIfInBounds]; exact hsz, fun j q hj => ?_⟩
  by_cases hjk : j = k
  · subst hjk
    obtain rfl : p = q := by rw [hp] at hj; simpa using hj
    obtain ⟨vc, hc, _, hvc⟩ := h.at_ j p hp
    refine ⟨v, fun c u hu => ?_, fun _ => (hv.mono hw0).set_x hrow (by decide) _ _, fun h => by omega⟩
    have hc6 : c < 6 := (List.getElem?_eq_some_iff.1 hu).1
    by_cases h3 : c = 3
    · subst h3
      rw [Array.getElem?_setIfInBounds, if_pos rfl, if_pos (by omega)]
      exact hu
    · rw [Array.getElem?_setIfInBounds, if_neg (by omega)]
      refine hc c u ?_
      match c, hu, h3 with
      | 0, hu, _ | 1, hu, _ | 2, hu, _ | 4, hu, _ | 5, hu, _ => exact hu
      | 3, _, h3 => exact absurd rfl h3
      | c + 6, hu, _ => omega
  · obtain ⟨vc, hc, ho, hvc⟩ := h.at_ j q hj
    refine ⟨vc, fun c u hu => ?_, fun hlt => ((ho (by omega)).below hb).set_x hrow (by decide) _ _, fun h => hvc (by omega)⟩
    have hc6 : c < 6 := (List.getElem?_eq_some_iff.1 hu).1
    rw [Array.getElem?_setIfInBounds, if_neg (by omega)]
    exact hc c u hu
theorem XsCl.done {B : Nat} {w0 : World} {g : Nat} {w : World} {ps : List (PX × Vc)} {n cap : Nat} {cur : Array Value} (h : XsCl B w0 g w ps n cur) (hn : ps.length = n) : OwnXs B w ⟨some ⟨g, 0, none⟩, n, cap⟩ (ps.map (·.1)) := by
  refine ⟨by rw [List.length_map]; exact hn, .inr ⟨g, cur, rfl, h.ge, h.row, fun j x hj => ?_⟩⟩
  rw [List.getElem?_map] at hj
  cases hp : ps[j]? with
  | none => rw [hp] at hj; cases hj
  | some p =>
    rw [hp] at hj
    obtain rfl : p.1 = x := by simpa using hj
    obtain ⟨vc, hc, ho, _⟩ := h.at_ j p hp
    exact ⟨vc, ho (by have := (List.getElem?_eq_some_iff.1 hp).1; omega), hc⟩

set_option maxHeartbeats 2000000 in
theorem cexchanges (v : Vc) (xs : List PX) (w : World) (hx : XsAt w v xs) (hn : v.n ≤ 1048576) (hc : ∀ x ∈ xs, x.cnt.length ≤ 1048576) :
    Calls Try.prog 33 #[.slice v.a v.n v.c] w fun e w' => ∃ v' : Vc, e = .returned (.slice v'.a v'.n v'.c) ∧ OwnXs w.heap.size w' v' xs ∧ Below w.heap.size w w' := by
  obtain ⟨ps, rfl, hp⟩ := hx.pair
  have hl : ps.length = v.n := by rw [← hx.len, List.length_map]
  have HCl := Lib.hid (cloneX_any v ps w hl hp hx.nil hn)
  have HX := Lib.hid hp
  have HC := Lib.hid hc
  have HL := Lib.hid hl
  obtain ⟨a, n, c⟩ := v
  simp only at hl hn
  clear hx hp hc hl
  go_enter Try.func33, Try.ntmps33
  go_wp2_with fail
  refine HCl.out.mono ?_
  rintro e w1 (⟨hps, rfl, hB⟩ | ⟨g, cap, cur, rfl, S0⟩)
  · have HP := Lib.hid hps
    clear hps
    go_wp2_with fail
    go_loopw [9] (fun si wr => si = .int .i64 0 ∧ Below w.heap.size w wr) (fun _ _ => 0)
    case atStart => exact ⟨rfl, hB⟩
    case round =>
      obtain ⟨rfl, hB'⟩ := hrel
      go_wp2
      go_ret
      exact ⟨Vc.nil, rfl, by rw [HP.out]; exact OwnXs.nil _ _, hB'⟩
  · go_wp2_with fail
    go_loopw [9] (fun si wr => ∃ (k : Nat) (cur : Array Value), k ≤ n ∧ si = .int .i64 (k : Int) ∧ XsCl w.heap.size w g wr ps k cur) (fun si _ => n - (intOf si).toNat)
    case atStart => exact ⟨0, cur, Nat.zero_le _, rfl, S0⟩
    case round =>
      clear S0
      obtain ⟨k, cur, hk, rfl, S⟩ := hrel
      by_cases hlt : k < n
      · have hkl : k < ps.length := by rw [HL.out]; exact hlt
        have hpk : ps[k]? = some ps[k] := List.getElem?_eq_getElem hkl
        obtain ⟨vc, hcc, _, hvc⟩ := S.at_ k _ hpk
        obtain rfl := hvc (Nat.le_refl _)
        have hva := (HX.out.vec _ (List.getElem_mem hkl)).below S.bel
        have hcn := HC.out _ (List.mem_map.2 ⟨ps[k], List.getElem_mem hkl, rfl⟩)
        have hvn : ps[k].2.n ≤ 1048576 := by rw [← hva.len]; exact hcn
        have c3 : wr.cell? ⟨g, k * 6 + 3, none⟩ = some (.slice ps[k].2.a ps[k].2.n ps[k].2.c) := S.row.at_ _ _ (hcc 3 _ rfl)
        have HK := Lib.hid (clone32_any ps[k].2 _ wr hva hvn)
        have HSt := Lib.hid (fun (w' : World) (v : Vc) (hb : Below wr.heap.size wr w') (hv : OwnVec wr.heap.size w' v ps[k].1.cnt) => S.step hpk hb hv S.bel.size)
        have hrl := S.row.lt
        have HR := Lib.hid S.row
        clear hcc hvc hva hcn hvn S
        generalize hpd : ps[k] = pd at *
        clear hpd hpk
        obtain ⟨px, ⟨pa, pn, pc⟩⟩ := pd
        simp only at c3
        go_wp2_with fail
        refine HK.out.mono ?_
        rintro e w3 ⟨⟨va, vn, vc⟩, rfl, hv, hb⟩
        have d3 : w3.cell? ⟨g, k * 6 + 3, none⟩ = some (.slice pa pn pc) := (hb.cell (p := ⟨g, k * 6 + 3, none⟩) hrl).trans c3
        have f3 : w3.frozen? ⟨g, k * 6 + 3, none⟩ = false := (HR.out.below hb hrl).free _
        have HS3 := Lib.hid (HSt.out _ _ hb hv)
        clear c3 hv hb HSt HK
        go_wp2_with fail
        go_roundw
        case rel => exact ⟨k + 1, _, by omega, by go_num, HS3.out⟩
        case measure => simp [intOf]; omega
      · obtain rfl : k = n := by omega
        go_wp2
        go_ret
        exact ⟨⟨some ⟨g, 0, none⟩, k, cap⟩, rfl, S.done HL.out, S.bel⟩

set_option maxHeartbeats 2000000 in
theorem cmessage (w : World) (mf mq ms mv f : Int) (v : Vc) (T : ByteArray) (ds : List Nat) (hv : VecAt w v ds) (hn : v.n ≤ 1048576) (hT : T.size ≤ 1048576) :
    Calls Try.prog 31 #[.agg #[.int .i64 mf, .int .u32 mq, .int .u64 ms, .int .i64 mv, .slice v.a v.n v.c, .string T], .int .i64 f] w fun e w' =>
      ∃ v' : Vc, e = .returned (.agg #[.int .i64 f, .int .u32 mq, .int .u64 ms, .int .i64 mv, .slice v'.a v'.n v'.c, .string T]) ∧ OwnVec w.heap.size w' v' ds ∧ Below w.heap.size w w' := by
  obtain ⟨va, vn, vc⟩ := v
  simp only at hn
  go_enter Try.func31, Try.ntmps31
  go_wp2
  obtain ⟨W, hW⟩ : ∃ W, W = ((w.alloc (.cells #[.int .i64 mf, .int .u32 mq, .int .u64 ms, .int .i64 mv, .slice va vn vc, .string T] 32)).alloc (.cells #[.int .i64 0, .int .u32 0, .int .u64 0, .int .i64 0, .slice none 0 0, .string { data := #[] }] 32)) := ⟨_, rfl⟩
  have G : Grw w W := by rw [hW]; exact ((Grw.refl _).alloc _).alloc _
  have O0 : Own W w.heap.size 32 #[.int .i64 mf, .int .u32 mq, .int .u64 ms, .int .i64 mv, .slice va vn vc, .string T] := by
    rw [hW]; exact (Own.new w _ _).below ((Grw.refl _).alloc _).below (by simp)
  have R0 : Own W (w.heap.size + 1) 32 #[.int .i64 0, .int .u32 0, .int .u64 0, .int .i64 0, .slice none 0 0, .string { data := #[] }] := by
    rw [hW]
    have := Own.new (w.alloc (.cells #[.int .i64 mf, .int .u32 mq, .int .u64 ms, .int .i64 mv, .slice va vn vc, .string T] 32)) 32 #[.int .i64 0, .int .u32 0, .int .u64 0, .int .i64 0, .slice none 0 0, .string { data := #[] }]
    simpa using this
  have hz : w.heap.size + 2 ≤ W.heap.size := R0.lt
  rw [← hW]
  clear hW
  have hv' : VecAt W.drew ⟨va, vn, vc⟩ ds := hv.below G.drew.below
  have c4 : W.drew.cell? ⟨w.heap.size, 4, none⟩ = some (.slice va vn vc) := O0.at_ 4 _ rfl
  have c5 : W.drew.cell? ⟨w.heap.size, 5, none⟩ = some (.string T) := O0.at_ 5 _ rfl
  have HK := Lib.hid (clone32_any ⟨va, vn, vc⟩ ds W.drew hv' hn)
  have HO := Lib.hid O0
  have HR := Lib.hid R0
  have HG := Lib.hid G
  clear hv hv' O0 R0 G
  go_region_with (first
    | (go_at_call 32; refine HK.out.mono ?_; rintro e w1 ⟨⟨na, nn, nc⟩, rfl, ho, hb1⟩; (have c5' : w1.cell? ⟨w.heap.size, 5, none⟩ = some (.string T) := (hb1.cell (p := ⟨w.heap.size, 5, none⟩) (by show w.heap.size < W.heap.size; omega)).trans c5); (have H1 := Lib.hid (And.intro ho hb1)); clear ho hb1)
    | (go_at_call 59; refine (clone_any T _ (by omega)).mono ?_; rintro e w2 ⟨rfl, hb2⟩; (have B2 := (H1.out.2.trans (hb2.mono H1.out.2.size))); (have O2 := HO.out.drew.below B2 (by show w.heap.size < W.heap.size; omega)); (have x0 : w2.cell? ⟨w.heap.size, 0, none⟩ = some (.int .i64 mf) := O2.at_ 0 _ rfl); (have x1 : w2.cell? ⟨w.heap.size, 1, none⟩ = some (.int .u32 mq) := O2.at_ 1 _ rfl); (have x2 : w2.cell? ⟨w.heap.size, 2, none⟩ = some (.int .u64 ms) := O2.at_ 2 _ rfl); (have x3 : w2.cell? ⟨w.heap.size, 3, none⟩ = some (.int .i64 mv) := O2.at_ 3 _ rfl); (have x4 : w2.cell? ⟨w.heap.size, 4, none⟩ = some (.slice va vn vc) := O2.at_ 4 _ rfl); (have x5 : w2.cell? ⟨w.heap.size, 5, none⟩ = some (.string T) := O2.at_ 5 _ rfl); (have y0 := O2.free 0); (have y4 := O2.free 4); (have y5 := O2.free 5); (have HB := Lib.hid B2); (have H2 := Lib.hid (H1.out.1.below hb2)); clear O2 B2 hb2))
  all_goals
    have R2 := HR.out.drew.below HB.out (by show w.heap.size + 1 < W.heap.size; omega)
    have z0 : w2.cell? ⟨w.heap.size + 1, 0, none⟩ = some (.int .i64 0) := R2.at_ 0 _ rfl
    have z1 : w2.cell? ⟨w.heap.size + 1, 1, none⟩ = some (.int .u32 0) := R2.at_ 1 _ rfl
    have z2 : w2.cell? ⟨w.heap.size + 1, 2, none⟩ = some (.int .u64 0) := R2.at_ 2 _ rfl
    have z3 : w2.cell? ⟨w.heap.size + 1, 3, none⟩ = some (.int .i64 0) := R2.at_ 3 _ rfl
    have z4 : w2.cell? ⟨w.heap.size + 1, 4, none⟩ = some (.slice none 0 0) := R2.at_ 4 _ rfl
    have z5 : w2.cell? ⟨w.heap.size + 1, 5, none⟩ = some (.string { data := #[] }) := R2.at_ 5 _ rfl
    have g0 := R2.free 0
    have g1 := R2.free 1
    have g2 := R2.free 2
    have g3 := R2.free 3
    have g4 := R2.free 4
    have g5 := R2.free 5
    have HR2 := Lib.hid R2
    clear R2
    go_wp2
  all_goals
    have hw1 : w.heap.size < W.drew.heap.size := by show w.heap.size < W.heap.size; omega
    have hw2 : w.heap.size + 1 < W.drew.heap.size := by show w.heap.size + 1 < W.heap.size; omega
    have hne : w.heap.size + 1 ≠ w.heap.size := by omega
    have R3 := ((HR2.out.set_other w.heap.size 0 (.int .i64 f) hne).set_other w.heap.size 4 (.slice na nn nc) hne).set_other w.heap.size 5 (.string T) hne
    have V3 := ((H2.out.set hw1 0 (.int .i64 f)).set hw1 4 (.slice na nn nc)).set hw1 5 (.string T)
    have B3 := (((HG.out.drew.below.trans (HB.out.mono (by omega))).setCell (p := ⟨w.heap.size, 0, none⟩) (Nat.le_refl _) (.int .i64 f)).setCell (p := ⟨w.heap.size, 4, none⟩) (Nat.le_refl _) (.slice na nn nc)).setCell (p := ⟨w.heap.size, 5, none⟩) (Nat.le_refl _) (.string T)
    refine bodyPost_ret (results_cell_row rfl _ _ (w.heap.size + 1) 32 #[.int .i64 f, .int .u32 mq, .int .u64 ms, .int .i64 mv, .slice na nn nc, .string T] (0, 0) _ rfl (R3.set6 _ _ _ _ _ _) Try.underlying32 rfl (by kernel_rfl)) rfl ?_
    refine ⟨⟨na, nn, nc⟩, rfl, (V3.set6 hw2 _ _ _ _ _ _).mono (by omega), ?_⟩
    exact below_set6 B3 (by omega) _ _ _ _ _ _
end Go.Proofs.Ytgkddjapcdjalaa
