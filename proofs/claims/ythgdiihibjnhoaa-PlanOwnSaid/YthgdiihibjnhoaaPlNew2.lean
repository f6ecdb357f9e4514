/- Plans: New: its walk. -/
import Derived.Test.YthgdiihibjnhoaaPlNew
import Derived.Laws.StructEq
set_option linter.unusedVariables false
set_option maxRecDepth 100000
set_option linter.unusedSimpArgs false
namespace Go.Proofs.Ythgdiihibjnhoaa
open Go.RowKit Go.Sort Go.Shelf Go.Maps

theorem held_conf15 : Try.prog.stoodInHeld 31 = false := by kernel_rfl
theorem eq_conf15 (k : Nat) (a b c d : Int) (w : World) : (Op.equalIn (k + 2) 31 (.agg #[.int .u64 a, .int .i64 b]) (.agg #[.int .u64 c, .int .i64 d])).run Try.prog w = .ok (decide (a = c) && decide (b = d)) w := by
  have hp := held_conf15
  by_cases h : a = c
  · by_cases h' : b = d
    · subst h h'
      go_simp
    · subst h
      have e : (b == d) = false := by simpa using h'
      go_simp
  · have e : (a == c) = false := by simpa using h
    go_simp
def pn0 : Pn := ⟨0, whZ, ⟨0, 0⟩⟩
theorem build_pl (w : World) : (Instr.build 60 #[]).run Try.prog w = .ok (.agg pn0.cells.toArray) w := by kernel_rfl
theorem step_build0 {ops : Array Oper} {rest : List Oper} {o : Oper} {a : Act} {w : World} {Q : Exit → Act → World → Prop} (hgd : o.guard = none) (ty : TypeId) (ho : o.op = .build ty #[])
    (v : Value) (hb : (Instr.build ty #[]).run Try.prog w = .ok v w) (h : wpList Try.prog ops Q rest (a.put o.dst v) w) : wpList Try.prog ops Q (o :: rest) a w :=
  wpList_plain hgd fun _ hK => by
    unfold Oper.wp execOp
    simp only [ho, List.map_toArray, List.map_nil, Sem.run_bind, Sem.run_pure, Result.andThen_ok, hb]
    exact hK _ _ h
/-- Amid New: the plan of those that joined, their keys. W is the first world. -/
structure NwSt (W w wr : World) (g : Nat) (y : Xg) (l : List Xg) (v : Value) (m : Nat) : Prop where
  pl : PlB wr g { planL (compL y l) with bd := ⟨0, 0⟩ }
  keys : wr.ownsRow w.heap.size 29 2 v m (flat encK12 ((compL y l).map Xg.k))
  len : (compL y l).length = m
  bel : Below W.heap.size W wr
  base : W.heap.size ≤ g
  lg : g < w.heap.size
  sz : w.heap.size ≤ wr.heap.size
section
variable {W w wr w' : World} {g m k : Nat} {y x : Xg} {l : List Xg} {v : Value}
theorem NwSt.later (h : NwSt W w wr g y l v m) (hb : Below wr.heap.size wr w') : NwSt W w w' g y l v m :=
  ⟨h.pl.below hb, own_stays h.keys fun j _ hl => hb.block j hl, h.len, h.bel.trans (hb.mono h.bel.size), h.base, h.lg, Nat.le_trans h.sz hb.size⟩
theorem comp_snoc (y x : Xg) (l : List Xg) (h : sameOld x y = true) : compL y (l ++ [x]) = compL y l ++ [x] := by
  unfold compL; rw [List.filter_append]; simp [h]
theorem comp_skip (y x : Xg) (l : List Xg) (h : sameOld x y = false) : compL y (l ++ [x]) = compL y l := by
  unfold compL; rw [List.filter_append]; simp [h]
theorem NwSt.skip (h : NwSt W w wr g y l v m) (hx : sameOld x y = false) : NwSt W w wr g y (l ++ [x]) v m := by
  have e := comp_skip y x l hx
  exact ⟨by rw [e]; exact h.pl, by rw [e]; exact h.keys, by rw [e]; exact h.len, h.bel, h.base, h.lg, h.sz⟩
/-- Behind join, ahead of its key. -/
structure NwMid (W w wr : World) (g : Nat) (y : Xg) (l : List Xg) (v : Value) (m : Nat) (x : Xg) : Prop where
  pl : PlB wr g { planL (compL y l ++ [x]) with bd := ⟨0, 0⟩ }
  keys : wr.ownsRow w.heap.size 29 2 v m (flat encK12 ((compL y l).map Xg.k))
  len : (compL y l).length = m
  bel : Below W.heap.size W wr
  base : W.heap.size ≤ g
  lg : g < w.heap.size
  sz : w.heap.size ≤ wr.heap.size
theorem NwMid.later (h : NwMid W w wr g y l v m x) (hb : Below wr.heap.size wr w') : NwMid W w w' g y l v m x :=
  ⟨h.pl.below hb, own_stays h.keys fun j _ hl => hb.block j hl, h.len, h.bel.trans (hb.mono h.bel.size), h.base, h.lg, Nat.le_trans h.sz hb.size⟩
theorem NwSt.join (h : NwSt W w wr g y l v m) (hl : ∀ z ∈ compL y l, XgIn W z ∧ 0 ≤ z.w ∧ z.w < 64) (hx : XgIn W x) (x0 : 0 ≤ x.w) (x1 : x.w < 64) :
    Calls Try.prog 18 #[.pointer (some ⟨g, 0, none⟩), .agg (encXg x).toArray] wr fun e w' => e = .returned (.tuple #[]) ∧ NwMid W w w' g y l v m x ∧ Chg (fun k => k = g) wr w' := by
  refine (pjoin h.pl x hx h.bel h.base (csL_lt _) (by omega) (by omega)).mono fun e w' ⟨he, hp, hc, hb⟩ => ⟨he, ⟨?_, own_stays h.keys fun j hj hlt => hc.block j hlt (fun e2 => by have := own_behind h.keys j hj; have := h.lg; omega), h.len, hb, h.base, h.lg, Nat.le_trans h.sz hc.size⟩, hc⟩
  have hok := WhOk.list (compL y l) hl
  have e1 : ({ planL (compL y l ++ [x]) with bd := ⟨0, 0⟩ } : Pn) = ⟨any (csL (compL y l)) (onl x.w), whK x (whL (compL y l)) (min x.n 64), ⟨0, 0⟩⟩ := by
    unfold planL
    simp only
    rw [csL_snoc, whL_snoc, whX_of hx hok x0 _ rfl]
  rw [e1]
  exact hp
theorem NwMid.key (h : NwMid W w wr g y l v m x) (hx : sameOld x y = true) {v' : Value} (h1 : w'.ownsRow w.heap.size 29 2 v' (m + 1) (flat encK12 ((compL y l).map Xg.k ++ [x.k]))) (h2 : wr.grownBy w' v.ownBlock) : NwSt W w w' g y (l ++ [x]) v' (m + 1) := by
  have e := comp_snoc y x l hx
  have hlg := h.lg
  have hsz := h.sz
  refine ⟨?_, by rw [e, List.map_append]; exact h1, by rw [e, List.length_append, h.len]; rfl, h.bel.grown h2 h.bel.size (fun k ek => by have := own_behind h.keys k ek; have := h.base; omega), h.base, h.lg, Nat.le_trans h.sz h2.size⟩
  rw [e]
  exact h.pl.kept (h2.block g h.pl.lt fun e2 => by have := own_behind h.keys g e2.symm; omega)
theorem NwSt.start (W w3 : World) (y : Xg) (l : List Xg) (hb : Below W.heap.size W w3) : NwSt W (w3.alloc (.cells pn0.cells.toArray 60)) (w3.alloc (.cells pn0.cells.toArray 60)) w3.heap.size y (l.take 0) (.slice none 0 0) 0 := by
  have L4 := ((Grw.refl w3).alloc (.cells pn0.cells.toArray 60)).below
  have e1 : compL y (l.take 0) = [] := by rw [List.take_zero]; rfl
  have e2 : csL [] = 0 := by unfold csL; rw [List.map_nil, ofl_nil]
  have e3 : ({ planL ([] : List Xg) with bd := ⟨0, 0⟩ } : Pn) = pn0 := by unfold planL pn0; rw [e2]; rfl
  refine ⟨?_, ?_, ?_, hb.trans (L4.mono hb.size), hb.size, by simp, Nat.le_refl _⟩
  · rw [e1, e3]; exact PlB.alloc w3 pn0
  · rw [e1]; exact World.ownsRow_nil _ _ _ _
  · rw [e1]; rfl
/-- What New answers. -/
inductive NewSaid (W : World) (l : List Xg) (me : Int) : Ending → World → Prop
  | no (w' : World) (hn : (∀ x ∈ l, x.w ≠ me) ∨ ¬ Apart l) (hb : Below W.heap.size W w') : NewSaid W l me (.returned (.tuple #[.pointer none, .bool false])) w'
  | yes (g : Nat) (y : Xg) (w' : World) (h : HasPlan l me y) (hp : PlB w' g (planL (compL y l))) (hg : W.heap.size ≤ g) (hb : Below W.heap.size W w') : NewSaid W l me (.returned (.tuple #[.pointer (some ⟨g, 0, none⟩), .bool true])) w'
end
theorem store_key15 {ops : Array Oper} {rest : List Oper} {o : Oper} {A : Act} {w : World} {Q : Exit → Act → World → Prop} (hgd : o.guard = none) (x y : Operand) (ho : o.op = .store 29 x y)
    (g : Nat) (k : K) {P : Pn} (hx : A.eval x = .pointer (some ⟨g, 129, none⟩)) (hy : A.eval y = .agg #[.int .u64 k.n, .int .i64 k.p])
    (hg : PlB w g P) (h : wpList Try.prog ops Q rest (A.put o.dst undef) (w.setCells g 129 [.int .u64 k.n, .int .i64 k.p])) : wpList Try.prog ops Q (o :: rest) A w :=
  wpList_store_mid hgd 29 x y ho g 129 #[.int .u64 k.n, .int .i64 k.p] hx hy (hg.there _ 2 (by decide)) (by kernel_rfl) (by simp [Value.oneCell']) h
set_option maxHeartbeats 4000000 in
theorem pnew {w : World} {ao : Option Addr} {n : Nat} {l : List Xg} (h : XgL w ao n l) (c : Nat) (hn : n ≤ 200000) (me : Int) (m0 : -9223372036854775808 ≤ me) (m1 : me ≤ 9223372036854775807) :
    Calls Try.prog 5 #[.int .i64 me, .slice ao n c] w (NewSaid w l me) := by
  have HL := Lib.hid h
  have HLEN := Lib.hid h.at_.size
  have L1 := ((Grw.refl w).alloc (.cells #[.int .i64 me] 3)).below
  have O1 := Own.new w 3 #[.int .i64 me]
  have PI := pidx (h.below L1) c (by omega) me w.heap.size (O1.at_ 0 _ rfl)
  have HB1 := Lib.hid L1
  clear h L1 O1
  go_enter Try.func5, Try.ntmps5
  go_upto_region 1 with fail
  generalize w.alloc (.cells #[.int .i64 me] 3) = w1 at *
  go_wp2_with fail
  refine PI.mono ?_
  rintro e w2 ⟨z, rfl, hz, B2⟩
  have HB2 := Lib.hid (HB1.out.trans (B2.mono HB1.out.size))
  clear PI B2 HB1
  rcases hz with ⟨rfl, hno⟩ | ⟨at', y, rfl, hat, hme⟩
  · have HNO := Lib.hid (NewSaid.no (l := l) (me := me) w2 (.inl hno) HB2.out)
    clear hno
    go_wp2
    go_ret2
    exact HNO.out
  have hlt : at' < n := by have := (List.getElem?_eq_some_iff.1 hat).1; have := HLEN.out; omega
  have HAT := Lib.hid (And.intro hat hme)
  have PW := pwhose (HL.out.below HB2.out) c (by omega)
  have hcard := csL_card l
  rw [HLEN.out] at hcard
  have HAP := Lib.hid (apart_iff (l := l))
  rw [HLEN.out] at HAP
  have hcl := csL_lt l
  obtain ⟨s, hs⟩ : ∃ s, s = csL l := ⟨_, rfl⟩
  rw [← hs] at PW hcard HAP hcl
  clear hs hat hme
  have hat0 : decide ((at' : Int) < 0) = false := decide_eq_false (by omega)
  go_wp2_with fail
  refine PW.mono ?_
  rintro e w3 ⟨rfl, B3⟩
  have PS := size_any s w3 hcl
  have HB3 := Lib.hid (HB2.out.trans (B3.mono HB2.out.size))
  clear PW B3 HB2
  obtain ⟨cd, hcd⟩ : ∃ cd, cd = card s := ⟨_, rfl⟩
  rw [← hcd] at PS hcard HAP
  clear hcd
  go_wp2_with fail
  refine PS.mono ?_
  rintro e w4 ⟨rfl, rfl⟩
  clear PS
  cases hfull : decide (cd < n) with
  | true =>
    have HNO := Lib.hid (NewSaid.no (l := l) (me := me) w3 (.inr fun h => by have := HAP.out.2 h; have := of_decide_eq_true hfull; omega) HB3.out)
    go_wp2
    go_ret2
    exact HNO.out
  | false =>
    have HA := Lib.hid (HAP.out.1 (by have := of_decide_eq_false hfull; omega))
    have N4 := Lib.hid (NwSt.start w w3 y l HB3.out)
    clear HAP hcard HB3
    go_upto_region 5 with (first | (refine step_build0 rfl 60 rfl (.agg pn0.cells.toArray) (build_pl _) ?_) | fail)
    generalize w3.alloc (.cells pn0.cells.toArray 60) = w5 at *
    generalize w3.heap.size = g at *
    go_wp2
    go_loopw [8, 28] (fun sv si wr => ∃ (k m c2 : Nat) (a2 : Option Addr), k ≤ n ∧ m ≤ k ∧ sv = .slice a2 m c2 ∧ si = .int .i64 k ∧ Aside (NwSt w w5 wr g y (l.take k) (.slice a2 m c2) m)) (fun _ si _ => n - (intOf si).toNat)
    case atStart => exact ⟨0, 0, 0, none, Nat.zero_le _, Nat.le_refl _, rfl, rfl, N4.out⟩
    case round =>
      obtain ⟨k, m, c2, a2, hk, hm, rfl, rfl, HS⟩ := hrel
      clear N4
      by_cases hlt2 : k < n
      · obtain ⟨b, o, x, rfl, hx, hr⟩ := (HL.out.below HS.out.bel).row hlt2
        obtain ⟨b', o', y', hab, hy', hry⟩ := (HL.out.below HS.out.bel).row hlt
        cases hab
        obtain rfl : y' = y := by have := HAT.out.1; rw [hy'] at this; cases this; rfl
        have HR := Lib.hid hr
        have hxi := HL.out.in_ x (List.mem_of_getElem? hx)
        have hxa := HA.out.in_ x (List.mem_of_getElem? hx)
        have HXI := Lib.hid (And.intro hxi.1 hxa)
        have HCI := Lib.hid (show ∀ z ∈ compL y' (l.take k), XgIn w z ∧ 0 ≤ z.w ∧ z.w < 64 from fun z hz => by
          have hz2 : z ∈ l := List.mem_of_mem_take (List.mem_filter.1 hz).1
          exact ⟨(HL.out.in_ z hz2).1, HA.out.in_ z hz2⟩)
        have HT := Lib.hid (show l.take (k + 1) = l.take k ++ [x] by rw [List.take_add_one, hx]; rfl)
        have B6 := ((Grw.refl wr).alloc (.cells (encXg x).toArray 33)).below
        have X6 := Lib.hid (XgB.new wr x)
        have S6 := Lib.hid (HS.out.later B6)
        have e1 := cell_later B6 (hry 1 _ rfl)
        have e2 := cell_later B6 (hry 2 _ rfl)
        have HEQ := Lib.hid (fun W => eq_conf15 9998 x.oe x.op y'.oe y'.op W)
        obtain ⟨bs, hbs⟩ : ∃ bs, bs = sameOld x y' := ⟨_, rfl⟩
        have hEq : ∀ W, (Op.equalIn 10000 31 (.agg #[.int .u64 x.oe, .int .i64 x.op]) (.agg #[.int .u64 y'.oe, .int .i64 y'.op])).run Try.prog W = .ok bs W := fun W => by rw [hbs]; exact HEQ.out W
        have HBS := Lib.hid hbs
        clear hr hx hry hy' hxi hxa B6 HS HEQ hbs
        obtain ⟨yoe, hyoe⟩ : ∃ yoe, yoe = y'.oe := ⟨_, rfl⟩
        obtain ⟨yop, hyop⟩ : ∃ yop, yop = y'.op := ⟨_, rfl⟩
        rw [← hyoe] at e1 hEq
        rw [← hyop] at e2 hEq
        clear hyoe hyop
        obtain ⟨xw, xe, xp, xa, xn, xc, cnt, kn, kp⟩ := x
        unfold encXg at *
        simp only at e1 e2 hEq
        go_upto_region 9 with (first | (refine load_xgm rfl (.tmp 30) rfl b (o + k * 6) ⟨xw, xe, xp, xa, xn, xc, cnt, kn, kp⟩ rfl HR.out ?_) | fail)
        generalize wr.alloc (.cells #[.int .i64 xw, .int .u64 xe, .int .i64 xp, .slice xa xn xc, .int .u64 kn, .int .i64 kp] 33) = w6 at *
        generalize wr.heap.size = mb at *
        clear HR
        have c1 : w6.cell? ⟨mb, 1, none⟩ = some (.int .u64 xe) := X6.out.own.at_ 1 _ rfl
        have c2' : w6.cell? ⟨mb, 2, none⟩ = some (.int .i64 xp) := X6.out.own.at_ 2 _ rfl
        cases bs with
        | false =>
          go_quiet (fail)
          have S7 := Lib.hid (S6.out.later ((Grw.refl w6).drewN nq).below)
          clear S6 X6 c1 c2' e1 e2 hEq
          have S8 := Lib.hid (S7.out.skip HBS.out.symm)
          rw [← HT.out] at S8
          go_wp2
          go_roundw
          case rel => exact ⟨k + 1, m, c2, a2, by omega, by omega, rfl, by go_num, S8.out⟩
          case measure => simp [intOf]; omega
        | true =>
          go_quiet (fail)
          have S7 := Lib.hid (S6.out.later ((Grw.refl w6).drewN nq).below)
          have X7 := Lib.hid (X6.out.below ((Grw.refl w6).drewN nq).below)
          clear S6 X6 c1 c2' e1 e2 hEq
          generalize w6.drewN nq = w7 at *
          have c0 : w7.cell? ⟨mb, 0, none⟩ = some (.int .i64 xw) := X7.out.own.at_ 0 _ rfl
          have c1 : w7.cell? ⟨mb, 1, none⟩ = some (.int .u64 xe) := X7.out.own.at_ 1 _ rfl
          have c2' : w7.cell? ⟨mb, 2, none⟩ = some (.int .i64 xp) := X7.out.own.at_ 2 _ rfl
          have c3 : w7.cell? ⟨mb, 3, none⟩ = some (.slice xa xn xc) := X7.out.own.at_ 3 _ rfl
          have c4 : w7.cell? ⟨mb, 4, none⟩ = some (.int .u64 kn) := X7.out.own.at_ 4 _ rfl
          have c5 : w7.cell? ⟨mb, 5, none⟩ = some (.int .i64 kp) := X7.out.own.at_ 5 _ rfl
          have PJ := S7.out.join HCI.out HXI.out.1 HXI.out.2.1 HXI.out.2.2
          unfold encXg at PJ
          simp only at PJ
          go_wp2_with fail
          with_reducible refine PJ.mono ?_
          rintro e w8 ⟨rfl, hmid, hchg⟩
          have X8 := Lib.hid (show XgB w8 mb ⟨xw, xe, xp, xa, xn, xc, cnt, kn, kp⟩ from X7.out.kept (hchg.block mb (Own.lt X7.out) (fun e => by
            have h1 := S7.out.pl
            rw [← e] at h1
            have := h1.own.is.symm.trans X7.out.own.is
            injection this with e1
            injection e1 with _ e2 _
            exact absurd e2 (by decide))))
          have L9 := ((Grw.refl w8).alloc (.cells #[.int .u64 kn, .int .i64 kp] 29)).below
          have M9 := Lib.hid (hmid.later L9)
          have O9 := Own.new w8 29 #[.int .u64 kn, .int .i64 kp]
          have k0 := O9.at_ 0 _ rfl
          have k1 := O9.at_ 1 _ rfl
          have c4 : w8.cell? ⟨mb, 4, none⟩ = some (.int .u64 kn) := X8.out.own.at_ 4 _ rfl
          have c5 : w8.cell? ⟨mb, 5, none⟩ = some (.int .i64 kp) := X8.out.own.at_ 5 _ rfl
          have HK := Lib.hid (And.intro k0 k1)
          clear PJ hmid hchg L9 O9 S7 X7 c0 c1 c2' c3
          go_wp2_with (at_builtin; refine append_key _ rfl (.tmp 43) (.tmp 46) rfl w5.heap.size (.slice a2 m c2) m _ rfl M9.out.keys w8.heap.size 1 ⟨kn, kp⟩ rfl HK.out.1 HK.out.2 (by omega) M9.out.sz ?_; intro v9 w9 h1 h2)
          obtain ⟨a9, c9, rfl⟩ := own_form' h1
          have S9 := Lib.hid (M9.out.key HBS.out.symm h1 h2)
          rw [← HT.out] at S9
          clear h1 h2 M9 HK X8 c4 c5 k0 k1
          go_roundw
          case rel => exact ⟨k + 1, m + 1, c9, a9, by omega, by omega, rfl, by go_num, S9.out⟩
          case measure => simp [intOf]; omega
      · obtain rfl : k = n := by omega
        have HS' := Lib.hid HS.out
        have hmk : ((compL y (l.take k)).map Xg.k).length = m := by rw [List.length_map]; exact HS'.out.len
        have PL := last_any a2 m c2 ((compL y (l.take k)).map Xg.k) wr (own_lst' encK12_length hmk HS'.out.keys) (by omega)
        obtain ⟨kl, hkl⟩ : ∃ kl, kl = lastK ((compL y (l.take k)).map Xg.k) := ⟨_, rfl⟩
        rw [← hkl] at PL
        have HKL := Lib.hid hkl
        clear hkl hmk HS
        obtain ⟨kn, kp⟩ := kl
        simp only at PL
        go_wp2_with fail
        with_reducible refine PL.mono ?_
        rintro e w8 ⟨rfl, B8⟩
        have S8 := Lib.hid (HS'.out.later B8)
        have P8 := Lib.hid (S8.out.pl.setB ⟨kn, kp⟩)
        have HY := Lib.hid (NewSaid.yes (l := l) (me := me) g y (w8.setCells g 129 [.int .u64 kn, .int .i64 kp]) ⟨List.mem_of_getElem? HAT.out.1, HAT.out.2, HA.out⟩ (by
          have h1 := P8.out
          rw [List.take_of_length_le (by rw [HLEN.out]; exact Nat.le_refl _)] at h1
          have h2 := HKL.out
          rw [List.take_of_length_le (by rw [HLEN.out]; exact Nat.le_refl _)] at h2
          have e : planL (compL y l) = { planL (compL y l) with bd := ⟨kn, kp⟩ } := by rw [h2]; rfl
          rw [e]; exact h1) S8.out.base (S8.out.bel.grown (grown_cells15 g _ _ _) S8.out.bel.size (fun k e => by cases e; exact S8.out.base)))
        clear PL B8 HS' HKL P8
        go_wp2_with (refine store_key15 rfl (.tmp 53) (.tmp 51) rfl g ⟨kn, kp⟩ rfl rfl S8.out.pl ?_)
        go_ret2
        exact HY.out
end Go.Proofs.Ythgdiihibjnhoaa
