/- Layer 19: an item parsed: the closure; what answer makes of both; Parse and ParseItem. -/
import Derived.Test.YtblefbjmjhgkkaaLgParse
set_option linter.unusedVariables false
set_option maxRecDepth 100000
set_option linter.unusedSimpArgs false
namespace Go.Proofs.Ytblefbjmjhgkkaa
open Go.RowKit Go.Sort

theorem getK_may {m : Nat} {l : List UInt8} {v : Nat} {r : List UInt8} (h : getK m l = .ok (v, r)) : 1 ≤ v ∧ v ≤ m := by
  unfold getK at h
  simp only [andG_iff, badG_iff, Except.ok.injEq, Prod.mk.injEq] at h
  obtain ⟨k, r', _, h2, rfl, _⟩ := h
  omega
set_option maxHeartbeats 4000000 in
theorem parse1I (s : ByteArray) (hs : s.size ≤ 1099511627776) (g : Nat) (w : World) (hc : w.cell? ⟨g, 0, none⟩ = some (.string s)) :
    Calls Try.prog 30 #[.pointer (some ⟨g, 0, none⟩)] w (CP (parseI s.data.toList) (ItD w.heap.size) w) := by
  have hgl : g < w.heap.size := World.block_lt_of_cell? _ _ hc
  have hc1 : (w.alloc (.cells #[.int .i64 0, .string { data := #[] }, .int .u32 0, .int .u64 0, .bool false, .bool false, .int .u64 0, .int .u64 0, .int .i64 0, .int .u64 0, .slice none 0 0, .int .u64 0, .int .u64 0, .int .i64 0, .int .u64 0, .int .u64 0, .int .i64 0, .int .i64 0] 43)).cell? ⟨g, 0, none⟩ = some (.string s) := cell_later ((Grw.refl w).alloc _).below hc
  have HPS := Lib.hid (show parseI s.data.toList = match getK 4 (restB s 0) with
    | .error e => .error e
    | .ok (k, r) => if 1024 < s.size then .error 3 else endG (getIt k r) by rw [parseI_k, restB_zero]; rfl)
  have HC0 := Lib.hid hc
  clear hc
  go_enter Try.func30, Try.ntmps30
  go_wp2_with fail
  refine (new_any _ _).mono ?_
  rintro e w2 ⟨rfl, hw2⟩
  have P0 := PcSt.new w s hs 43 #[.int .i64 0, .string { data := #[] }, .int .u32 0, .int .u64 0, .bool false, .bool false, .int .u64 0, .int .u64 0, .int .i64 0, .int .u64 0, .slice none 0 0, .int .u64 0, .int .u64 0, .int .i64 0, .int .u64 0, .int .u64 0, .int .i64 0, .int .i64 0] hw2
  have z1 : (w.alloc (.cells #[.int .i64 0, .string { data := #[] }, .int .u32 0, .int .u64 0, .bool false, .bool false, .int .u64 0, .int .u64 0, .int .i64 0, .int .u64 0, .slice none 0 0, .int .u64 0, .int .u64 0, .int .i64 0, .int .u64 0, .int .u64 0, .int .i64 0, .int .i64 0] 43)).heap.size = w.heap.size + 1 := by simp
  have z2 : w2.heap.size = w.heap.size + 2 := by rw [← hw2]; simp
  clear hw2 hc1
  try simp only [z1]
  go_upto_region 2 with fail
  try simp only [z2]
  generalize w2.alloc (.cells #[.pointer (some ⟨w.heap.size + 1, 0, none⟩)] 67) = w3 at *
  clear z1 z2
  have b3 : w3.cell? ⟨w.heap.size + 2, 0, none⟩ = some (.pointer (some ⟨w.heap.size + 1, 0, none⟩)) := P0.box.at_ 0 _ rfl
  go_wp2_with fail
  refine (rkind _ _ s 0 4 P0.rd).mono ?_
  rintro e w4 (⟨v, _, a1, hG, rfl, rfl, hr, hg⟩ | ⟨q, hG, rfl, hg⟩)
  rotate_left
  · exact ⟨rfl, P0.below.trans (below_of_by hg (by omega) P0.below.size), .inr ⟨q, nn_K _ _ _ hG, by rw [HPS.out, hG], rfl⟩⟩
  have P4 := P0.go hr hg
  have hv := getK_may hG
  have G4 := Lib.hid hG
  have b4 : w4.cell? ⟨w.heap.size + 2, 0, none⟩ = some (.pointer (some ⟨w.heap.size + 1, 0, none⟩)) := P4.box.at_ 0 _ rfl
  have c4 : w4.cell? ⟨g, 0, none⟩ = some (.string s) := (P4.below.cell (p := ⟨g, 0, none⟩) hgl).trans HC0.out
  clear hG hr hg P0 b3
  by_cases hl : 1024 < s.size
  · go_wp2_with fail
    refine (within_no (s.size : Int) 0 1024 3 _ (.inr (by omega))).mono ?_
    rintro e w5 ⟨rfl, rfl⟩
    exact ⟨rfl, P4.below, .inr ⟨3, by decide, by rw [HPS.out, G4.out]; exact if_pos hl, rfl⟩⟩
  go_wp2_with fail
  refine (within_yes (s.size : Int) 0 1024 3 _ (by omega) (by omega)).mono ?_
  rintro e w5 ⟨rfl, rfl⟩
  have HPS2 := Lib.hid (show parseI s.data.toList = endG (getIt v (restB s a1)) by rw [HPS.out, G4.out]; exact if_neg hl)
  clear hl c4
  go_wp2_with fail
  refine (ritem _ _ s a1 v P4.rd hs hv).mono ?_
  rintro e w5 (⟨x, _, a2, hG, rfl, ⟨T, pa, pk, pc, rfl, hO⟩, hr, hg⟩ | ⟨q, hG, rfl, hg⟩)
  rotate_left
  · exact ⟨rfl, P4.below.trans (below_of_by hg (by omega) P4.below.size), .inr ⟨q, nn_It _ _ _ hG, by rw [HPS2.out, hG]; rfl, rfl⟩⟩
  have P5 := P4.go hr hg
  have G5 := Lib.hid hG
  have hz4 : w.heap.size + 3 ≤ w4.heap.size := P4.box.lt
  have hz5 : w.heap.size + 3 ≤ w5.heap.size := P5.box.lt
  have HO := Lib.hid (hO.mono hz4)
  have Z5 : Own (w5.alloc (.cells #[.int .i64 0, .string { data := #[] }, .int .u32 0, .int .u64 0, .bool false, .bool false, .int .u64 0, .int .u64 0, .int .i64 0, .int .u64 0, .slice none 0 0, .int .u64 0, .int .u64 0, .int .i64 0, .int .u64 0, .int .u64 0, .int .i64 0, .int .i64 0] 43)) w5.heap.size 43 (encI zeroI { data := #[] } none 0 0).toArray := Own.new _ _ _
  have hGr := (Grw.refl w5).alloc (.cells #[.int .i64 0, .string { data := #[] }, .int .u32 0, .int .u64 0, .bool false, .bool false, .int .u64 0, .int .u64 0, .int .i64 0, .int .u64 0, .slice none 0 0, .int .u64 0, .int .u64 0, .int .i64 0, .int .u64 0, .int .u64 0, .int .i64 0, .int .i64 0] 43)
  have P6 := P5.later hGr.below
  have O6 := own_grw HO.out.row hGr
  clear hG hr hg hO P4 P5 b4 hGr
  go_upto_region 5 with (refine store_item rfl (.tmp 4) (.tmp 15) rfl w5.heap.size rfl rfl Z5 ?_)
  have R6 := Z5.row (encI x T pa pk pc).toArray
  have P7 : PcSt w ((w5.alloc (.cells #[.int .i64 0, .string { data := #[] }, .int .u32 0, .int .u64 0, .bool false, .bool false, .int .u64 0, .int .u64 0, .int .i64 0, .int .u64 0, .slice none 0 0, .int .u64 0, .int .u64 0, .int .i64 0, .int .u64 0, .int .u64 0, .int .i64 0, .int .i64 0] 43)).setRow w5.heap.size (encI x T pa pk pc).toArray) s a2 43 #[.int .i64 0, .string { data := #[] }, .int .u32 0, .int .u64 0, .bool false, .bool false, .int .u64 0, .int .u64 0, .int .i64 0, .int .u64 0, .slice none 0 0, .int .u64 0, .int .u64 0, .int .i64 0, .int .u64 0, .int .u64 0, .int .i64 0, .int .i64 0] :=
    ⟨P6.res.row_other _ (by omega), P6.rd.row (by omega) _, P6.box.row_other _ (by omega), belowRow18 P6.below _ (by omega) _⟩
  have O7 := Lib.hid (show ((w5.alloc (.cells #[.int .i64 0, .string { data := #[] }, .int .u32 0, .int .u64 0, .bool false, .bool false, .int .u64 0, .int .u64 0, .int .i64 0, .int .u64 0, .slice none 0 0, .int .u64 0, .int .u64 0, .int .i64 0, .int .u64 0, .int .u64 0, .int .i64 0, .int .i64 0] 43)).setRow w5.heap.size (encI x T pa pk pc).toArray).ownsRow (w.heap.size + 3) 28 4 (.slice pa pk pc) pk (flat encV x.r.pend) from by
    refine ⟨O6.1, ?_⟩
    rcases O6.2 with h1 | ⟨g', cap, cur, h1, h2, h3, h4⟩
    · exact .inl h1
    · refine .inr ⟨g', cap, cur, h1, h2, (setRow_other _ _ g' _ ?_).trans h3, h4⟩
      intro e
      subst e
      have := Z5.is.symm.trans h3
      injection this with e1
      injection e1 with _ e2 _
      exact absurd e2 (by decide))
  clear Z5 P6 O6
  generalize (w5.alloc (.cells #[.int .i64 0, .string { data := #[] }, .int .u32 0, .int .u64 0, .bool false, .bool false, .int .u64 0, .int .u64 0, .int .i64 0, .int .u64 0, .slice none 0 0, .int .u64 0, .int .u64 0, .int .i64 0, .int .u64 0, .int .u64 0, .int .i64 0, .int .i64 0] 43)).setRow w5.heap.size (encI x T pa pk pc).toArray = w7 at *
  generalize w5.heap.size = G at *
  have b7 : w7.cell? ⟨w.heap.size + 2, 0, none⟩ = some (.pointer (some ⟨w.heap.size + 1, 0, none⟩)) := P7.box.at_ 0 _ rfl
  go_wp2_with fail
  refine (rend _ _ s a2 P7.rd).mono ?_
  rintro e w8 ⟨hg, ⟨hn, rfl⟩ | ⟨hn, rfl⟩⟩
  rotate_left
  · exact ⟨rfl, P7.below.trans (below_of_by hg (by omega) P7.below.size), .inr ⟨4, by decide, by rw [HPS2.out, G5.out, endG_left _ hn], rfl⟩⟩
  have R8 := R6.grown hg (by intro e; injection e with e; omega)
  have S8 : Own w8 w.heap.size 43 (encI zeroI { data := #[] } none 0 0).toArray := P7.res.grown hg (by intro e; injection e with e; omega)
  have B8 := Lib.hid (P7.below.trans (below_of_by hg (by omega) P7.below.size))
  have O8 := Lib.hid (own_by O7.out hg (by omega))
  have HE := Lib.hid (show parseI s.data.toList = .ok x by rw [HPS2.out, G5.out, endG_nil _ hn])
  clear hg hn P7 R6 O7 b7
  go_wp2_with (first | (refine load_item rfl (.tmp 4) rfl G rfl R8 ?_) | (refine store_item rfl (.tmp 1) (.tmp 18) rfl w.heap.size rfl rfl S8 ?_))
  (try simp only [Exit.inBlock, Exit.then])
  refine bodyPost_ret (results_item rfl _ _ w.heap.size rfl (S8.row _)) rfl ?_
  exact ⟨belowRow18 B8.out _ (Nat.le_refl _) _, .inl ⟨x, _, HE.out, rfl, T, pa, pk, pc, rfl, ⟨HO.out.text, own_base (own_setRow O8.out (by omega) _) (by omega), HO.out.len, HO.out.few⟩⟩⟩

/-- The two results' cells of answer. -/
theorem results_twoS {fn : Func} {p u : Tmp} (h : fn.results = #[.cell p 33, .cell u 34]) (tmps : Array Value) {W : World} {g g1 : Nat} {cs : Array Value} {c : Int}
    (hp : tmps.getD p undef = .pointer (some ⟨g, 0, none⟩)) (hu : tmps.getD u undef = .pointer (some ⟨g1, 0, none⟩)) (h0 : Own W g 33 cs) (h1 : Own W g1 34 #[.int .i64 c]) (hl : cs.size = 7) :
    (results fn tmps).run Try.prog W = .ok (.tuple #[.agg cs, .int .i64 c]) W := by
  have hl := run_loadVar_row (P := Try.prog) W g 33 33 cs (0, 0) _ h0 Try.underlying33 rfl (by rw [stable_size, hl])
  have hc : W.cell? ⟨g1, 0, none⟩ = some (.int .i64 c) := h1.at_ 0 _ rfl
  have hp' : tmps[p]?.getD undef = .pointer (some ⟨g, 0, none⟩) := by simpa using hp
  have hu' : tmps[u]?.getD undef = .pointer (some ⟨g1, 0, none⟩) := by simpa using hu
  simp [results, h, hp', hu', asAddr, hl, Result.andThen]
  simp [loadVar, go_sem, hc]
set_option maxHeartbeats 4000000 in
theorem answerS (s : ByteArray) (hs : s.size ≤ 1099511627776) (g : Nat) (w : World) (hc : w.cell? ⟨g, 0, none⟩ = some (.string s)) :
    Calls Try.prog 20 #[.func (.func 21) #[] #[.pointer (some ⟨g, 0, none⟩)]] w fun e w' => Below w.heap.size w w' ∧ ((∃ v val, parseS s.data.toList = .ok v ∧ e = .returned (.tuple #[val, .int .i64 0]) ∧ OwnS w.heap.size w' v val) ∨
      (∃ c, c ≠ 0 ∧ parseS s.data.toList = .error c ∧ e = .returned (.tuple #[.agg (encS zeroS none 0 0).toArray, .int .i64 (c : Int)]))) := by
  have hmf : ∀ (fn : Fn) (first cap : Array Value) (w : World), (Instr.makeFunc fn first cap).run Try.prog w = .ok (.func fn first cap) w := fun _ _ _ _ => rfl
  have z1 : (w.alloc (.cells #[.int .u64 0, .int .u32 0, .int .u64 0, .int .u64 0, .int .i64 0, .int .u64 0, .slice none 0 0] 33)).heap.size = w.heap.size + 1 := by simp
  have S1 : Own (w.alloc (.cells #[.int .u64 0, .int .u32 0, .int .u64 0, .int .u64 0, .int .i64 0, .int .u64 0, .slice none 0 0] 33)) w.heap.size 33 (encS zeroS none 0 0).toArray := Own.new _ _ _
  have G1 := (Grw.refl w).alloc (.cells #[.int .u64 0, .int .u32 0, .int .u64 0, .int .u64 0, .int .i64 0, .int .u64 0, .slice none 0 0] 33)
  have E2 := Own.new (w.alloc (.cells #[.int .u64 0, .int .u32 0, .int .u64 0, .int .u64 0, .int .i64 0, .int .u64 0, .slice none 0 0] 33)) 34 #[.int .i64 0]
  rw [z1] at E2
  have G2 := (Grw.refl (w.alloc (.cells #[.int .u64 0, .int .u32 0, .int .u64 0, .int .u64 0, .int .i64 0, .int .u64 0, .slice none 0 0] 33))).alloc (.cells #[.int .i64 0] 34)
  have S2 := S1.below G2.below S1.lt
  have B2 := (G1.trans G2).below
  have hc2 := cell_later B2 hc
  have z2 : ((w.alloc (.cells #[.int .u64 0, .int .u32 0, .int .u64 0, .int .u64 0, .int .i64 0, .int .u64 0, .slice none 0 0] 33)).alloc (.cells #[.int .i64 0] 34)).heap.size = w.heap.size + 2 := by simp
  have P := parse1S s hs g _ hc2
  clear S1 G1 G2 hc hc2 z1
  go_enter_defers Try.func20, Try.ntmps20
  go_wp2_with fail
  refine P.mono ?_
  rintro e w3 ⟨hb, ⟨x, _, hG, rfl, ⟨pa, pk, pc, rfl, ho, hol, hok⟩⟩ | ⟨c, hc0, hG, rfl⟩⟩
  rotate_left
  · have S3 := S2.below hb S2.lt
    have E3 := E2.below hb E2.lt
    have B3 := B2.trans (hb.mono B2.size)
    refine leaves_cons (f := 43) (args := #[.pointer (some ⟨w.heap.size + 1, 0, none⟩)]) (by simp) (by simp [go_sem]) ?_
    refine (acatchS (w.heap.size + 1) (c : Int) w3 _ E3).mono ?_
    rintro e u' w'' ⟨rfl, rfl, rfl⟩
    exact ⟨_, results_twoS rfl _ rfl rfl (S3.set_other _ _ _ (by omega)) (E3.set 0 _) rfl, B3.setCell (by simp) _, .inr ⟨c, hc0, hG, rfl⟩⟩
  have hz : w.heap.size + 2 ≤ w3.heap.size := by rw [← z2]; exact hb.size
  have S3 := S2.below hb S2.lt
  have E3 := E2.below hb E2.lt
  have B3 := B2.trans (hb.mono B2.size)
  rw [z2] at ho
  have E4 : Own (w3.setRow w.heap.size (encS x pa pk pc).toArray) (w.heap.size + 1) 34 #[.int .i64 0] := E3.row_other _ (by omega)
  have c1 : (w3.setRow w.heap.size (encS x pa pk pc).toArray).cell? ⟨w.heap.size + 1, 0, none⟩ = some (.int .i64 0) := E4.at_ 0 _ rfl
  have f1 : (w3.setRow w.heap.size (encS x pa pk pc).toArray).frozen? ⟨w.heap.size + 1, 0, none⟩ = false := E4.free 0
  have HO := Lib.hid ho
  have HG := Lib.hid hG
  clear P S2 E2 B2 z2 hb ho hG
  go_wp2_with (refine store_stable rfl (.tmp 2) (.tmp 6) rfl w.heap.size rfl rfl S3 ?_)
  refine leaves_cons (f := 43) (args := #[.pointer (some ⟨w.heap.size + 1, 0, none⟩)]) (by simp) (by simp [go_sem]) ?_
  refine (aidleS _ _).mono ?_
  rintro e u' w'' ⟨rfl, rfl, rfl⟩
  exact ⟨_, results_twoS rfl _ rfl rfl ((S3.row _).set_other _ _ _ (by omega)) (E4.set 0 _) rfl, (belowRow18 B3 _ (Nat.le_refl _) _).setCell (by simp) _, .inl ⟨x, _, HG.out, rfl, ⟨pa, pk, pc, rfl, own_base (own_set (own_setRow HO.out (by omega) _) (by omega) _ _) (by omega), hol, hok⟩⟩⟩
theorem results_ctS {fn : Func} {p u : Tmp} (h : fn.results = #[.cell p 33, .tmp u]) (tmps : Array Value) (w : World) (g : Nat) {x : Stb} {a : Option Addr} {k c : Nat}
    (hp : tmps.getD p undef = .pointer (some ⟨g, 0, none⟩)) (hg : Own w g 33 (encS x a k c).toArray) :
    (results fn tmps).run Try.prog w = .ok (.tuple #[.agg (encS x a k c).toArray, tmps.getD u undef]) w := by
  rw [results_cell_tmp h, hp]
  have hl := run_loadVar_row (P := Try.prog) w g 33 33 (encS x a k c).toArray (0, 0) _ hg Try.underlying33 rfl stable_size
  simp [asAddr, hl, Result.andThen]
set_option maxHeartbeats 4000000 in
theorem lparseS (s : ByteArray) (hs : s.size ≤ 1099511627776) (w : World) :
    Calls Try.prog 7 #[.string s] w fun e w' => Below w.heap.size w w' ∧ ((∃ v val, parseS s.data.toList = .ok v ∧ e = .returned (.tuple #[val, .int .i64 0]) ∧ OwnS w.heap.size w' v val) ∨
      (∃ c, c ≠ 0 ∧ parseS s.data.toList = .error c ∧ e = .returned (.tuple #[.agg (encS zeroS none 0 0).toArray, .int .i64 (c : Int)]))) := by
  have hmf : ∀ (fn : Fn) (first cap : Array Value) (w : World), (Instr.makeFunc fn first cap).run Try.prog w = .ok (.func fn first cap) w := fun _ _ _ _ => rfl
  have z1 : (w.alloc (.cells #[.string s] 9)).heap.size = w.heap.size + 1 := by simp
  have S1 := Own.new w 9 #[.string s]
  have G1 := (Grw.refl w).alloc (.cells #[.string s] 9)
  have G2 := (Grw.refl (w.alloc (.cells #[.string s] 9))).alloc (.cells #[.int .u64 0, .int .u32 0, .int .u64 0, .int .u64 0, .int .i64 0, .int .u64 0, .slice none 0 0] 33)
  have E2 : Own ((w.alloc (.cells #[.string s] 9)).alloc (.cells #[.int .u64 0, .int .u32 0, .int .u64 0, .int .u64 0, .int .i64 0, .int .u64 0, .slice none 0 0] 33)) (w.alloc (.cells #[.string s] 9)).heap.size 33 (encS zeroS none 0 0).toArray := Own.new _ _ _
  rw [z1] at E2
  have S2 := S1.below G2.below S1.lt
  have B2 := (G1.trans G2).below
  have z2 : ((w.alloc (.cells #[.string s] 9)).alloc (.cells #[.int .u64 0, .int .u32 0, .int .u64 0, .int .u64 0, .int .i64 0, .int .u64 0, .slice none 0 0] 33)).heap.size = w.heap.size + 2 := by simp
  have P := answerS s hs w.heap.size _ (S2.at_ 0 _ rfl)
  clear S1 G1 G2 z1 S2
  go_enter Try.func7, Try.ntmps7
  go_wp2_with fail
  refine P.mono ?_
  rintro e w3 ⟨hb, ⟨x, _, hG, rfl, ⟨pa, pk, pc, rfl, ho, hol, hok⟩⟩ | ⟨c, hc0, hG, rfl⟩⟩
  rotate_left
  · have E3 := E2.below hb E2.lt
    have B3 := B2.trans (hb.mono B2.size)
    clear P
    go_wp2_with (refine store_stable rfl (.tmp 2) (.tmp 6) rfl (w.heap.size + 1) rfl rfl E3 ?_)
    refine bodyPost_ret (results_ctS rfl _ _ (w.heap.size + 1) rfl (E3.row _)) rfl ?_
    exact ⟨belowRow18 B3 _ (by omega) _, .inr ⟨c, hc0, hG, rfl⟩⟩
  have hz : w.heap.size + 2 ≤ w3.heap.size := by rw [← z2]; exact hb.size
  have E3 := E2.below hb E2.lt
  have B3 := Lib.hid (B2.trans (hb.mono B2.size))
  rw [z2] at ho
  have HO := Lib.hid ho
  have HG := Lib.hid hG
  clear P E2 B2 z2 hb ho hG
  go_wp2_with (refine store_stable rfl (.tmp 2) (.tmp 6) rfl (w.heap.size + 1) rfl rfl E3 ?_)
  refine bodyPost_ret (results_ctS rfl _ _ (w.heap.size + 1) rfl (E3.row _)) rfl ?_
  exact ⟨belowRow18 B3.out _ (by omega) _, .inl ⟨x, _, HG.out, rfl, ⟨pa, pk, pc, rfl, own_base (own_setRow HO.out (by omega) _) (by omega), hol, hok⟩⟩⟩

/-- The two results' cells of answer. -/
theorem results_twoI {fn : Func} {p u : Tmp} (h : fn.results = #[.cell p 43, .cell u 34]) (tmps : Array Value) {W : World} {g g1 : Nat} {cs : Array Value} {c : Int}
    (hp : tmps.getD p undef = .pointer (some ⟨g, 0, none⟩)) (hu : tmps.getD u undef = .pointer (some ⟨g1, 0, none⟩)) (h0 : Own W g 43 cs) (h1 : Own W g1 34 #[.int .i64 c]) (hl : cs.size = 18) :
    (results fn tmps).run Try.prog W = .ok (.tuple #[.agg cs, .int .i64 c]) W := by
  have hl := run_loadVar_row (P := Try.prog) W g 43 43 cs (0, 0) _ h0 Try.underlying43 rfl (by rw [item_size, hl])
  have hc : W.cell? ⟨g1, 0, none⟩ = some (.int .i64 c) := h1.at_ 0 _ rfl
  have hp' : tmps[p]?.getD undef = .pointer (some ⟨g, 0, none⟩) := by simpa using hp
  have hu' : tmps[u]?.getD undef = .pointer (some ⟨g1, 0, none⟩) := by simpa using hu
  simp [results, h, hp', hu', asAddr, hl, Result.andThen]
  simp [loadVar, go_sem, hc]
set_option maxHeartbeats 4000000 in
theorem answerI (s : ByteArray) (hs : s.size ≤ 1099511627776) (g : Nat) (w : World) (hc : w.cell? ⟨g, 0, none⟩ = some (.string s)) :
    Calls Try.prog 29 #[.func (.func 30) #[] #[.pointer (some ⟨g, 0, none⟩)]] w fun e w' => Below w.heap.size w w' ∧ ((∃ v val, parseI s.data.toList = .ok v ∧ e = .returned (.tuple #[val, .int .i64 0]) ∧ ItD w.heap.size w' v val) ∨
      (∃ c, c ≠ 0 ∧ parseI s.data.toList = .error c ∧ e = .returned (.tuple #[.agg (encI zeroI { data := #[] } none 0 0).toArray, .int .i64 (c : Int)]))) := by
  have hmf : ∀ (fn : Fn) (first cap : Array Value) (w : World), (Instr.makeFunc fn first cap).run Try.prog w = .ok (.func fn first cap) w := fun _ _ _ _ => rfl
  have z1 : (w.alloc (.cells #[.int .i64 0, .string { data := #[] }, .int .u32 0, .int .u64 0, .bool false, .bool false, .int .u64 0, .int .u64 0, .int .i64 0, .int .u64 0, .slice none 0 0, .int .u64 0, .int .u64 0, .int .i64 0, .int .u64 0, .int .u64 0, .int .i64 0, .int .i64 0] 43)).heap.size = w.heap.size + 1 := by simp
  have S1 : Own (w.alloc (.cells #[.int .i64 0, .string { data := #[] }, .int .u32 0, .int .u64 0, .bool false, .bool false, .int .u64 0, .int .u64 0, .int .i64 0, .int .u64 0, .slice none 0 0, .int .u64 0, .int .u64 0, .int .i64 0, .int .u64 0, .int .u64 0, .int .i64 0, .int .i64 0] 43)) w.heap.size 43 (encI zeroI { data := #[] } none 0 0).toArray := Own.new _ _ _
  have G1 := (Grw.refl w).alloc (.cells #[.int .i64 0, .string { data := #[] }, .int .u32 0, .int .u64 0, .bool false, .bool false, .int .u64 0, .int .u64 0, .int .i64 0, .int .u64 0, .slice none 0 0, .int .u64 0, .int .u64 0, .int .i64 0, .int .u64 0, .int .u64 0, .int .i64 0, .int .i64 0] 43)
  have E2 := Own.new (w.alloc (.cells #[.int .i64 0, .string { data := #[] }, .int .u32 0, .int .u64 0, .bool false, .bool false, .int .u64 0, .int .u64 0, .int .i64 0, .int .u64 0, .slice none 0 0, .int .u64 0, .int .u64 0, .int .i64 0, .int .u64 0, .int .u64 0, .int .i64 0, .int .i64 0] 43)) 34 #[.int .i64 0]
  rw [z1] at E2
  have G2 := (Grw.refl (w.alloc (.cells #[.int .i64 0, .string { data := #[] }, .int .u32 0, .int .u64 0, .bool false, .bool false, .int .u64 0, .int .u64 0, .int .i64 0, .int .u64 0, .slice none 0 0, .int .u64 0, .int .u64 0, .int .i64 0, .int .u64 0, .int .u64 0, .int .i64 0, .int .i64 0] 43))).alloc (.cells #[.int .i64 0] 34)
  have S2 := S1.below G2.below S1.lt
  have B2 := (G1.trans G2).below
  have hc2 := cell_later B2 hc
  have z2 : ((w.alloc (.cells #[.int .i64 0, .string { data := #[] }, .int .u32 0, .int .u64 0, .bool false, .bool false, .int .u64 0, .int .u64 0, .int .i64 0, .int .u64 0, .slice none 0 0, .int .u64 0, .int .u64 0, .int .i64 0, .int .u64 0, .int .u64 0, .int .i64 0, .int .i64 0] 43)).alloc (.cells #[.int .i64 0] 34)).heap.size = w.heap.size + 2 := by simp
  have P := parse1I s hs g _ hc2
  clear S1 G1 G2 hc hc2 z1
  go_enter_defers Try.func29, Try.ntmps29
  go_wp2_with fail
  refine P.mono ?_
  rintro e w3 ⟨hb, ⟨x, _, hG, rfl, ⟨T, pa, pk, pc, rfl, ho⟩⟩ | ⟨c, hc0, hG, rfl⟩⟩
  rotate_left
  · have S3 := S2.below hb S2.lt
    have E3 := E2.below hb E2.lt
    have B3 := B2.trans (hb.mono B2.size)
    refine leaves_cons (f := 50) (args := #[.pointer (some ⟨w.heap.size + 1, 0, none⟩)]) (by simp) (by simp [go_sem]) ?_
    refine (acatchI (w.heap.size + 1) (c : Int) w3 _ E3).mono ?_
    rintro e u' w'' ⟨rfl, rfl, rfl⟩
    exact ⟨_, results_twoI rfl _ rfl rfl (S3.set_other _ _ _ (by omega)) (E3.set 0 _) rfl, B3.setCell (by simp) _, .inr ⟨c, hc0, hG, rfl⟩⟩
  have hz : w.heap.size + 2 ≤ w3.heap.size := by rw [← z2]; exact hb.size
  have S3 := S2.below hb S2.lt
  have E3 := E2.below hb E2.lt
  have B3 := B2.trans (hb.mono B2.size)
  rw [z2] at ho
  have E4 : Own (w3.setRow w.heap.size (encI x T pa pk pc).toArray) (w.heap.size + 1) 34 #[.int .i64 0] := E3.row_other _ (by omega)
  have c1 : (w3.setRow w.heap.size (encI x T pa pk pc).toArray).cell? ⟨w.heap.size + 1, 0, none⟩ = some (.int .i64 0) := E4.at_ 0 _ rfl
  have f1 : (w3.setRow w.heap.size (encI x T pa pk pc).toArray).frozen? ⟨w.heap.size + 1, 0, none⟩ = false := E4.free 0
  have HO := Lib.hid ho
  have HG := Lib.hid hG
  clear P S2 E2 B2 z2 hb ho hG
  go_wp2_with (refine store_item rfl (.tmp 2) (.tmp 6) rfl w.heap.size rfl rfl S3 ?_)
  refine leaves_cons (f := 50) (args := #[.pointer (some ⟨w.heap.size + 1, 0, none⟩)]) (by simp) (by simp [go_sem]) ?_
  refine (aidleI _ _).mono ?_
  rintro e u' w'' ⟨rfl, rfl, rfl⟩
  exact ⟨_, results_twoI rfl _ rfl rfl ((S3.row _).set_other _ _ _ (by omega)) (E4.set 0 _) rfl, (belowRow18 B3 _ (Nat.le_refl _) _).setCell (by simp) _, .inl ⟨x, _, HG.out, rfl, ⟨T, pa, pk, pc, rfl, ((HO.out.setRow (by omega) _).set (by omega) _ _).mono (by omega)⟩⟩⟩
theorem results_ctI {fn : Func} {p u : Tmp} (h : fn.results = #[.cell p 43, .tmp u]) (tmps : Array Value) (w : World) (g : Nat) {x : Itm} {T : ByteArray} {a : Option Addr} {k c : Nat}
    (hp : tmps.getD p undef = .pointer (some ⟨g, 0, none⟩)) (hg : Own w g 43 (encI x T a k c).toArray) :
    (results fn tmps).run Try.prog w = .ok (.tuple #[.agg (encI x T a k c).toArray, tmps.getD u undef]) w := by
  rw [results_cell_tmp h, hp]
  have hl := run_loadVar_row (P := Try.prog) w g 43 43 (encI x T a k c).toArray (0, 0) _ hg Try.underlying43 rfl item_size
  simp [asAddr, hl, Result.andThen]
set_option maxHeartbeats 4000000 in
theorem lparseI (s : ByteArray) (hs : s.size ≤ 1099511627776) (w : World) :
    Calls Try.prog 9 #[.string s] w fun e w' => Below w.heap.size w w' ∧ ((∃ v val, parseI s.data.toList = .ok v ∧ e = .returned (.tuple #[val, .int .i64 0]) ∧ ItD w.heap.size w' v val) ∨
      (∃ c, c ≠ 0 ∧ parseI s.data.toList = .error c ∧ e = .returned (.tuple #[.agg (encI zeroI { data := #[] } none 0 0).toArray, .int .i64 (c : Int)]))) := by
  have hmf : ∀ (fn : Fn) (first cap : Array Value) (w : World), (Instr.makeFunc fn first cap).run Try.prog w = .ok (.func fn first cap) w := fun _ _ _ _ => rfl
  have z1 : (w.alloc (.cells #[.string s] 9)).heap.size = w.heap.size + 1 := by simp
  have S1 := Own.new w 9 #[.string s]
  have G1 := (Grw.refl w).alloc (.cells #[.string s] 9)
  have G2 := (Grw.refl (w.alloc (.cells #[.string s] 9))).alloc (.cells #[.int .i64 0, .string { data := #[] }, .int .u32 0, .int .u64 0, .bool false, .bool false, .int .u64 0, .int .u64 0, .int .i64 0, .int .u64 0, .slice none 0 0, .int .u64 0, .int .u64 0, .int .i64 0, .int .u64 0, .int .u64 0, .int .i64 0, .int .i64 0] 43)
  have E2 : Own ((w.alloc (.cells #[.string s] 9)).alloc (.cells #[.int .i64 0, .string { data := #[] }, .int .u32 0, .int .u64 0, .bool false, .bool false, .int .u64 0, .int .u64 0, .int .i64 0, .int .u64 0, .slice none 0 0, .int .u64 0, .int .u64 0, .int .i64 0, .int .u64 0, .int .u64 0, .int .i64 0, .int .i64 0] 43)) (w.alloc (.cells #[.string s] 9)).heap.size 43 (encI zeroI { data := #[] } none 0 0).toArray := Own.new _ _ _
  rw [z1] at E2
  have S2 := S1.below G2.below S1.lt
  have B2 := (G1.trans G2).below
  have z2 : ((w.alloc (.cells #[.string s] 9)).alloc (.cells #[.int .i64 0, .string { data := #[] }, .int .u32 0, .int .u64 0, .bool false, .bool false, .int .u64 0, .int .u64 0, .int .i64 0, .int .u64 0, .slice none 0 0, .int .u64 0, .int .u64 0, .int .i64 0, .int .u64 0, .int .u64 0, .int .i64 0, .int .i64 0] 43)).heap.size = w.heap.size + 2 := by simp
  have P := answerI s hs w.heap.size _ (S2.at_ 0 _ rfl)
  clear S1 G1 G2 z1 S2
  go_enter Try.func9, Try.ntmps9
  go_wp2_with fail
  refine P.mono ?_
  rintro e w3 ⟨hb, ⟨x, _, hG, rfl, ⟨T, pa, pk, pc, rfl, ho⟩⟩ | ⟨c, hc0, hG, rfl⟩⟩
  rotate_left
  · have E3 := E2.below hb E2.lt
    have B3 := B2.trans (hb.mono B2.size)
    clear P
    go_wp2_with (refine store_item rfl (.tmp 2) (.tmp 6) rfl (w.heap.size + 1) rfl rfl E3 ?_)
    refine bodyPost_ret (results_ctI rfl _ _ (w.heap.size + 1) rfl (E3.row _)) rfl ?_
    exact ⟨belowRow18 B3 _ (by omega) _, .inr ⟨c, hc0, hG, rfl⟩⟩
  have hz : w.heap.size + 2 ≤ w3.heap.size := by rw [← z2]; exact hb.size
  have E3 := E2.below hb E2.lt
  have B3 := Lib.hid (B2.trans (hb.mono B2.size))
  rw [z2] at ho
  have HO := Lib.hid ho
  have HG := Lib.hid hG
  clear P E2 B2 z2 hb ho hG
  go_wp2_with (refine store_item rfl (.tmp 2) (.tmp 6) rfl (w.heap.size + 1) rfl rfl E3 ?_)
  refine bodyPost_ret (results_ctI rfl _ _ (w.heap.size + 1) rfl (E3.row _)) rfl ?_
  exact ⟨belowRow18 B3.out _ (by omega) _, .inl ⟨x, _, HG.out, rfl, ⟨T, pa, pk, pc, rfl, (HO.out.setRow (by omega) _).mono (by omega)⟩⟩⟩
end Go.Proofs.Ytblefbjmjhgkkaa
