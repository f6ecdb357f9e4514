/- The document's ear: other, Of, Reached. (Written by wip/gen_refear.py.) -/
import Derived.Test.YtcjbjcojmjfmaaaEarOpen
import Derived.Test.YtcjbjcojmjfmaaaRef9Math
set_option linter.unusedVariables false
set_option linter.unusedSimpArgs false
namespace Go.Proofs.Ytcjbjcojmjfmaaa
open Go.RowKit Go.Sort

def encS (s : Sd) : List Value := [.int .i64 s.p, .int .i64 s.at_, .bool s.beat, .bool s.gone, .int .u64 (s.b.ce : Int), .int .i64 s.b.cr, .int .u64 (s.b.pe : Int), .int .i64 s.b.pr, .int .u64 (s.b.ep : Int)]
theorem encS_length (s : Sd) : (encS s).length = 9 := rfl
def sd0 : Sd := ⟨0, 0, false, false, bt0⟩
def sdO : Option Sd → Sd
  | none => sd0
  | some s => s
theorem sdO_b (o : Option Sd) : (sdO o).b = botO o := by cases o <;> rfl
theorem sd_size : (Try.prog.info? 39).map (·.size) = some 9 := by kernel_rfl
theorem sd_one (s : Sd) : (#[.int .i64 s.p, .int .i64 s.at_, .bool s.beat, .bool s.gone, .int .u64 (s.b.ce : Int), .int .i64 s.b.cr, .int .u64 (s.b.pe : Int), .int .i64 s.b.pr, .int .u64 (s.b.ep : Int)] : Array Value).all (·.oneCell') = true := by simp [Value.oneCell']
def SdB (w : World) (g : Nat) (s : Sd) : Prop := Own w g 39 #[.int .i64 s.p, .int .i64 s.at_, .bool s.beat, .bool s.gone, .int .u64 (s.b.ce : Int), .int .i64 s.b.cr, .int .u64 (s.b.pe : Int), .int .i64 s.b.pr, .int .u64 (s.b.ep : Int)]
theorem SdB.own {w : World} {g : Nat} {s : Sd} (h : SdB w g s) : Own w g 39 #[.int .i64 s.p, .int .i64 s.at_, .bool s.beat, .bool s.gone, .int .u64 (s.b.ce : Int), .int .i64 s.b.cr, .int .u64 (s.b.pe : Int), .int .i64 s.b.pr, .int .u64 (s.b.ep : Int)] := h
theorem SdB.zero (w : World) : SdB (w.alloc (.cells #[.int .i64 0, .int .i64 0, .bool false, .bool false, .int .u64 0, .int .i64 0, .int .u64 0, .int .i64 0, .int .u64 0] 39)) w.heap.size sd0 := Own.new w _ _
theorem SdB.new (w : World) (s : Sd) : SdB (w.alloc (.cells #[.int .i64 s.p, .int .i64 s.at_, .bool s.beat, .bool s.gone, .int .u64 (s.b.ce : Int), .int .i64 s.b.cr, .int .u64 (s.b.pe : Int), .int .i64 s.b.pr, .int .u64 (s.b.ep : Int)] 39)) w.heap.size s := Own.new w _ _
theorem SdB.lt {w : World} {g : Nat} {s : Sd} (h : SdB w g s) : g < w.heap.size := h.own.lt
theorem SdB.put {w : World} {g : Nat} {s : Sd} (h : SdB w g s) (s' : Sd) : SdB (w.setRow g #[.int .i64 s'.p, .int .i64 s'.at_, .bool s'.beat, .bool s'.gone, .int .u64 (s'.b.ce : Int), .int .i64 s'.b.cr, .int .u64 (s'.b.pe : Int), .int .i64 s'.b.pr, .int .u64 (s'.b.ep : Int)]) g s' := setRow_heap _ _ _ _ _ _ h
theorem SdB.below {w w' : World} {g : Nat} {s : Sd} (h : SdB w g s) (hb : Below w.heap.size w w') : SdB w' g s := (hb.block g h.lt).trans h
theorem store_sd {ops : Array Oper} {rest : List Oper} {o : Oper} {A : Act} {w : World} {Q : Exit → Act → World → Prop} (hgd : o.guard = none) (x y : Operand) (ho : o.op = .store 39 x y)
    (g : Nat) (s : Sd) (hx : A.eval x = .pointer (some ⟨g, 0, none⟩)) (hy : A.eval y = .agg #[.int .i64 s.p, .int .i64 s.at_, .bool s.beat, .bool s.gone, .int .u64 (s.b.ce : Int), .int .i64 s.b.cr, .int .u64 (s.b.pe : Int), .int .i64 s.b.pr, .int .u64 (s.b.ep : Int)])
    {s0 : Sd} (hg : SdB w g s0) (h : wpList Try.prog ops Q rest (A.put o.dst undef) (w.setRow g #[.int .i64 s.p, .int .i64 s.at_, .bool s.beat, .bool s.gone, .int .u64 (s.b.ce : Int), .int .i64 s.b.cr, .int .u64 (s.b.pe : Int), .int .i64 s.b.pr, .int .u64 (s.b.ep : Int)])) : wpList Try.prog ops Q (o :: rest) A w :=
  wpList_store_row hgd 39 x y ho g _ hx hy 39 _ hg sd_size rfl (sd_one s) h
theorem results_sd {fn : Func} {p u : Tmp} (h : fn.results = #[.cell p 39, .tmp u]) (tmps : Array Value) (w : World) (g : Nat) {s : Sd}
    (hp : tmps.getD p undef = .pointer (some ⟨g, 0, none⟩)) (hg : SdB w g s) :
    (results fn tmps).run Try.prog w = .ok (.tuple #[.agg #[.int .i64 s.p, .int .i64 s.at_, .bool s.beat, .bool s.gone, .int .u64 (s.b.ce : Int), .int .i64 s.b.cr, .int .u64 (s.b.pe : Int), .int .i64 s.b.pr, .int .u64 (s.b.ep : Int)], tmps.getD u undef]) w := by
  rw [results_cell_tmp h, hp]
  have hl := run_loadVar_row (P := Try.prog) w g 39 39 #[.int .i64 s.p, .int .i64 s.at_, .bool s.beat, .bool s.gone, .int .u64 (s.b.ce : Int), .int .i64 s.b.cr, .int .u64 (s.b.pe : Int), .int .i64 s.b.pr, .int .u64 (s.b.ep : Int)] (0, 0) _ hg Try.underlying39 rfl sd_size
  simp [asAddr, hl, Result.andThen]

theorem rother (M : Rf) (hM : M.ok) (ao : Option Addr) (cap : Nat) (p : Int) (p0 : -9223372036854775808 ≤ p) (p1 : p ≤ 9223372036854775807) (w : World) :
    Calls Try.prog 28 #[.agg #[.int .i64 M.me, .int .i64 M.n, .int .i64 M.timeout, .int .i64 M.now, .slice ao M.all.length cap], .int .i64 p] w fun e w' => e = .returned (.bool (othB M.me M.n p)) ∧ Below w.heap.size w w' := by
  by_cases h0 : p < 0
  · have d : decide (0 ≤ p) = false := by simp; omega
    rw [show othB M.me M.n p = false by unfold othB; rw [d]; rfl]
    clear hM
    go_enter Try.func28, Try.ntmps28
    go_wp2
    go_ret
    exact ⟨rfl, ((Grw.refl w).alloc _).below⟩
  have e0 : decide (0 ≤ p) = true := by simp; omega
  by_cases h1 : M.n ≤ p
  · have d : decide (p < M.n) = false := by simp; omega
    rw [show othB M.me M.n p = false by unfold othB; rw [d]; simp]
    clear hM
    go_enter Try.func28, Try.ntmps28
    go_wp2
    go_ret
    exact ⟨rfl, ((Grw.refl w).alloc _).below⟩
  have e1 : decide (p < M.n) = true := by simp; omega
  by_cases h2 : 64 ≤ p
  · have d : decide (p < 64) = false := by simp; omega
    rw [show othB M.me M.n p = false by unfold othB; rw [d]; simp]
    clear hM
    go_enter Try.func28, Try.ntmps28
    go_wp2
    go_ret
    exact ⟨rfl, ((Grw.refl w).alloc _).below⟩
  have e2 : decide (p < 64) = true := by simp; omega
  by_cases h3 : p = M.me
  · have d : (p != M.me) = false := by simp; exact h3
    rw [show othB M.me M.n p = false by unfold othB; rw [decide_eq_true h3]; simp]
    clear hM h3
    go_enter Try.func28, Try.ntmps28
    go_wp2
    go_ret
    exact ⟨rfl, ((Grw.refl w).alloc _).below⟩
  · have d : (p != M.me) = true := by simp; exact h3
    rw [show othB M.me M.n p = true by unfold othB; rw [e0, e1, e2, decide_eq_false h3]; rfl]
    clear hM h3
    go_enter Try.func28, Try.ntmps28
    go_wp2
    go_ret
    exact ⟨rfl, ((Grw.refl w).alloc _).below⟩

/-- The document's ear, handed in: its list reads so. -/
structure RfAt (w : World) (M : Rf) (ao : Option Addr) : Prop where
  lst : Lst encS 9 w ao M.all.length M.all
  ok : M.ok
  few : M.all.length ≤ 100000
theorem RfAt.below {w w' : World} {M : Rf} {ao : Option Addr} (h : RfAt w M ao) (hb : Below w.heap.size w w') : RfAt w' M ao := ⟨h.lst.below hb, h.ok, h.few⟩
theorem slst_at {w : World} {b o : Nat} {l : List Sd} (h : RowAt encS 9 w b o l) (k : Nat) (s : Sd) (hk : l[k]? = some s) : w.rangeAt b (o + k * 9) (encS s) := fun j v hj => h k s hk j v hj

set_option maxHeartbeats 4000000 in
theorem rof {w : World} {M : Rf} {ao : Option Addr} (h : RfAt w M ao) (cap : Nat) (p : Int) (p0 : -9223372036854775808 ≤ p) (p1 : p ≤ 9223372036854775807) :
    Calls Try.prog 15 #[.agg #[.int .i64 M.me, .int .i64 M.n, .int .i64 M.timeout, .int .i64 M.now, .slice ao M.all.length cap], .int .i64 p] w fun e w' => e = .returned (.tuple #[.agg #[.int .i64 (sdO (ofT M.all p)).p, .int .i64 (sdO (ofT M.all p)).at_, .bool (sdO (ofT M.all p)).beat, .bool (sdO (ofT M.all p)).gone, .int .u64 ((sdO (ofT M.all p)).b.ce : Int), .int .i64 (sdO (ofT M.all p)).b.cr, .int .u64 ((sdO (ofT M.all p)).b.pe : Int), .int .i64 (sdO (ofT M.all p)).b.pr, .int .u64 ((sdO (ofT M.all p)).b.ep : Int)], .bool (ofT M.all p).isSome]) ∧ Below w.heap.size w w' := by
  have B1 := ((Grw.refl w).alloc (.cells #[.int .i64 M.me, .int .i64 M.n, .int .i64 M.timeout, .int .i64 M.now, .slice ao M.all.length cap] 31)).below
  have B2 := ((Grw.refl (w.alloc (.cells #[.int .i64 M.me, .int .i64 M.n, .int .i64 M.timeout, .int .i64 M.now, .slice ao M.all.length cap] 31))).alloc (.cells #[.int .i64 0, .int .i64 0, .bool false, .bool false, .int .u64 0, .int .i64 0, .int .u64 0, .int .i64 0, .int .u64 0] 39)).below
  have H2 := (h.below B1).below B2
  have L2 := B1.trans (B2.mono B1.size)
  have ZB := SdB.zero (w.alloc (.cells #[.int .i64 M.me, .int .i64 M.n, .int .i64 M.timeout, .int .i64 M.now, .slice ao M.all.length cap] 31))
  have v4 : ((w.alloc (.cells #[.int .i64 M.me, .int .i64 M.n, .int .i64 M.timeout, .int .i64 M.now, .slice ao M.all.length cap] 31)).alloc (.cells #[.int .i64 0, .int .i64 0, .bool false, .bool false, .int .u64 0, .int .i64 0, .int .u64 0, .int .i64 0, .int .u64 0] 39)).cell? ⟨w.heap.size, 4, none⟩ = some (.slice ao M.all.length cap) := by simp
  have hsz : (w.alloc (.cells #[.int .i64 M.me, .int .i64 M.n, .int .i64 M.timeout, .int .i64 M.now, .slice ao M.all.length cap] 31)).heap.size = w.heap.size + 1 := by simp
  rw [hsz] at ZB
  have few := h.few
  have HL := Lib.hid L2
  have HH := Lib.hid H2
  clear h B1 B2 H2 L2 hsz
  go_enter Try.func15, Try.ntmps15
  go_upto_region 1 with fail
  change SdB ((w.alloc (.cells #[.int .i64 M.me, .int .i64 M.n, .int .i64 M.timeout, .int .i64 M.now, .slice ao M.all.length cap] 31)).alloc (.cells #[.int .i64 0, .int .i64 0, .bool false, .bool false, .int .u64 0, .int .i64 0, .int .u64 0, .int .i64 0, .int .u64 0] 39)) _ _ at ZB
  generalize ((w.alloc (.cells #[.int .i64 M.me, .int .i64 M.n, .int .i64 M.timeout, .int .i64 M.now, .slice ao M.all.length cap] 31)).alloc (.cells #[.int .i64 0, .int .i64 0, .bool false, .bool false, .int .u64 0, .int .i64 0, .int .u64 0, .int .i64 0, .int .u64 0] 39)) = W at *
  generalize hlen : M.all.length = len at *
  have HN := Lib.hid hlen
  clear hlen
  go_wp2
  go_loop [6] (fun si => ∃ (j : Nat) (z : Int), j ≤ len ∧ z + 1 = j ∧ si = .int .i64 z ∧ ofT M.all p = ofT (M.all.take j) p) (fun si => (intOf si + 1).toNat)
  case atStart => exact ⟨len, (len : Int) - 1, Nat.le_refl _, by omega, rfl, by rw [List.take_of_length_le (by rw [HN.out]; exact Nat.le_refl _)]⟩
  case round =>
    obtain ⟨j, z, hj, hz, rfl, hof⟩ := hrel
    have HOF := Lib.hid hof
    clear hof
    by_cases hz0 : 0 ≤ z
    · obtain ⟨m, rfl⟩ := Int.eq_ofNat_of_zero_le hz0
      obtain rfl : j = m + 1 := by omega
      have hml : m < M.all.length := by rw [HN.out]; omega
      obtain ⟨s, hs⟩ : ∃ s, M.all[m]? = some s := ⟨_, List.getElem?_eq_getElem hml⟩
      obtain ⟨b, o, rfl, R⟩ := HH.out.lst.src (by omega)
      have HRG := slst_at R m s hs
      have HT := ofT_snoc (M.all.take m) s p
      rw [← take_snoc' _ _ _ hs, ← HOF.out] at HT
      have g0 : W.cell? ⟨b, o + m * 9, none⟩ = some (.int .i64 s.p) := HRG 0 _ rfl
      have g2 : W.cell? ⟨b, o + m * 9 + 2, none⟩ = some (.bool s.beat) := HRG 2 _ rfl
      have g3 : W.cell? ⟨b, o + m * 9 + 3, none⟩ = some (.bool s.gone) := HRG 3 _ rfl
      obtain ⟨sp, sa, sb, sg, bt⟩ := s
      simp only at g0 g2 g3
      have HRH := Lib.hid HRG
      clear HRG
      unfold goneS beatS at HT
      simp only at HT
      clear R hs HOF hml hz0
      by_cases hp : sp = p
      · have q0 : (sp == p) = true := by simp [hp]
        rw [decide_eq_true hp, Bool.true_and, Bool.true_and] at HT
        clear hp
        cases sg
        · cases sb
          · have HX := Lib.hid (HT.trans rfl)
            clear HT
            go_wp2
            go_round
            case rel => exact ⟨m, (m : Int) - 1, by omega, by omega, rfl, HX.out⟩
            case measure => simp [intOf] <;> omega
          · have HX := Lib.hid (HT.trans (c := some ⟨sp, sa, true, false, bt⟩) rfl)
            clear HT
            go_upto_region 7 with fail
            go_wp2_with (first | (refine wpList_load_mid rfl 39 (.tmp 51) rfl b (o + m * 9) rfl (encS ⟨sp, sa, true, false, bt⟩) _ HRH.out Try.underlying39 rfl sd_size ?_) | (refine store_sd rfl (.tmp 4) (.tmp 52) rfl (w.heap.size + 1) ⟨sp, sa, true, false, bt⟩ rfl rfl ZB ?_))
            (try simp only [Exit.inBlock, Exit.then])
            refine bodyPost_ret (results_sd rfl _ _ (w.heap.size + 1) rfl (ZB.put ⟨sp, sa, true, false, bt⟩)) rfl ⟨?_, ebelowRow HL.out _ (by omega) _⟩
            rw [HX.out]
            rfl
        · have HX := Lib.hid (HT.trans (c := none) rfl)
          clear HT
          go_upto_region 5 with fail
          go_wp2_with (refine store_sd rfl (.tmp 4) (.tmp 31) rfl (w.heap.size + 1) sd0 rfl rfl ZB ?_)
          (try simp only [Exit.inBlock, Exit.then])
          refine bodyPost_ret (results_sd rfl _ _ (w.heap.size + 1) rfl (ZB.put sd0)) rfl ⟨?_, ebelowRow HL.out _ (by omega) _⟩
          rw [HX.out]
          rfl
      · have q0 : (sp == p) = false := by simp [hp]
        rw [decide_eq_false hp, Bool.false_and, Bool.false_and] at HT
        have HX := Lib.hid (HT.trans rfl)
        clear HT
        clear hp
        go_wp2
        go_round
        case rel => exact ⟨m, (m : Int) - 1, by omega, by omega, rfl, HX.out⟩
        case measure => simp [intOf] <;> omega
    · obtain rfl : j = 0 := by omega
      have HX := Lib.hid (show ofT M.all p = none from HOF.out.trans rfl)
      clear HOF
      go_upto_region 8 with fail
      go_wp2_with (refine store_sd rfl (.tmp 4) (.tmp 53) rfl (w.heap.size + 1) sd0 rfl rfl ZB ?_)
      (try simp only [Exit.inBlock, Exit.then])
      refine bodyPost_ret (results_sd rfl _ _ (w.heap.size + 1) rfl (ZB.put sd0)) rfl ⟨?_, ebelowRow HL.out _ (by omega) _⟩
      rw [HX.out]
      rfl
end Go.Proofs.Ytcjbjcojmjfmaaa
