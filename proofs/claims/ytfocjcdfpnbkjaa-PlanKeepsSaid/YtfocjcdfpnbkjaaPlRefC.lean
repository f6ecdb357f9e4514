/- Layer 15: the document's own answers: Companions. -/
import Derived.Test.YtfocjcdfpnbkjaaPlMore
import Derived.Test.YtfocjcdfpnbkjaaPlNew2
import Derived.Deep.DeepCutAuto
import Derived.BigQuiet
set_option linter.unusedVariables false
set_option maxRecDepth 100000
set_option linter.unusedSimpArgs false
namespace Go.Proofs.Ytfocjcdfpnbkjaa
open Go.RowKit Go.Sort Go.Shelf Go.Maps

theorem append_xg (w : World) {ops : Array Oper} {rest : List Oper} {o : Oper} {a : Act} {Q : Exit → Act → World → Prop} (hgd : o.guard = none) (s x : Operand)
    (ho : o.op = .call { callee := .builtin .append, args := #[s, x], argTypes := #[89, 89] })
    (base : Nat) (v : Value) (n : Nat) (xs : List Value) (hs : a.eval s = v) (hown : w.ownsRow base 117 6 v n xs)
    (ao : Option Addr) (m c : Nat) (l : List Xg) (hx : a.eval x = .slice ao m c) (hnil : ao = none → c = 0) (hl : Lst encXg 6 w ao m l) (hn : n + m ≤ 200000) (hbase : base ≤ w.heap.size)
    (h : ∀ v' w', w'.ownsRow base 117 6 v' (n + m) (xs ++ flat encXg l) → w.grownBy w' v.ownBlock → wpList Try.prog ops Q rest (a.put o.dst v') w') : wpList Try.prog ops Q (o :: rest) a w :=
  wpList_plain hgd fun K' hK' => wp_append_xg w s x ho base v n xs hs hown ao m c l hx hnil hl hn hbase fun v' w' h1 h2 => hK' _ _ (h v' w' h1 h2)
theorem take_snoc15' {α : Type} {l : List α} {k : Nat} {x : α} (h : l[k]? = some x) : l.take (k + 1) = l.take k ++ [x] := by rw [List.take_add_one, h]; rfl
/-- Amid Companions' second loop. -/
structure CmSt (w wr : World) (y : Xg) (l : List Xg) (v : Value) (m : Nat) : Prop where
  own : wr.ownsRow (w.heap.size + 1) 117 6 v m (flat encXg (compL y l))
  len : (compL y l).length = m
  two : Two wr w.heap.size (.int .u64 y.oe) (.int .i64 y.op)
  bel : Below w.heap.size w wr
section
variable {w wr w' : World} {y x : Xg} {l : List Xg} {v v' : Value} {m : Nat}
theorem CmSt.later (h : CmSt w wr y l v m) (hb : Below wr.heap.size wr w') : CmSt w w' y l v m :=
  ⟨own_stays h.own fun j _ hl => hb.block j hl, h.len, h.two.below hb h.two.lt, h.bel.trans (hb.mono h.bel.size)⟩
theorem CmSt.skip (h : CmSt w wr y l v m) (hx : sameOld x y = false) : CmSt w wr y (l ++ [x]) v m := by
  refine ⟨?_, ?_, h.two, h.bel⟩
  · rw [comp_skip y x l hx]; exact h.own
  · rw [comp_skip y x l hx]; exact h.len
theorem CmSt.app (h : CmSt w wr y l v m) (hx : sameOld x y = true) (ho : w'.ownsRow (w.heap.size + 1) 117 6 v' (m + 1) (flat encXg (compL y l) ++ flat encXg [x])) (hg : wr.grownBy w' v.ownBlock) : CmSt w w' y (l ++ [x]) v' (m + 1) := by
  have hs : ∀ j, v.ownBlock = some j → w.heap.size + 1 ≤ j := fun j hj => own_behind h.own j hj
  have hne : ∀ j, j = w.heap.size → w'.heap[j]? = wr.heap[j]? := fun j hj => hg.block j (by have := h.two.lt; omega) (fun e => by have := hs j e.symm; omega)
  refine ⟨by rw [comp_snoc y x l hx, flat_append]; exact ho, by rw [comp_snoc y x l hx, List.length_append, h.len]; rfl, ?_, h.bel.grown hg h.bel.size fun j hj => by have := hs j hj; omega⟩
  have hblk := hne _ rfl
  exact h.two.keep (fun i => World.cell?_of_block hblk) (fun i => World.frozen?_of_block hblk)
theorem CmSt.sz (h : CmSt w wr y l v m) : w.heap.size + 1 ≤ wr.heap.size := h.two.lt
end
set_option maxHeartbeats 4000000 in
theorem refComp {w : World} {ao : Option Addr} {n : Nat} {l : List Xg} (h : XgL w ao n l) (c : Nat) (hn : n ≤ 100000) (me : Int) (m0 : -9223372036854775808 ≤ me) (m1 : me ≤ 9223372036854775807) (y : Xg) (hp : HasPlan l me y) :
    Calls Try.prog 43 #[.int .i64 me, .slice ao n c] w fun e w' => ∃ a m c', e = .returned (.slice a m c') ∧ XgL w' a m (compL y l) ∧ m ≤ n ∧ Below w.heap.size w w' := by
  have HL := Lib.hid h
  have HLEN := Lib.hid h.at_.size
  have HP := Lib.hid hp
  clear h hp
  go_enter Try.func43, Try.ntmps43
  go_wp2
  go_loopw [6] (fun si wr => ∃ (k : Nat) (oe op : Int), k ≤ n ∧ si = .int .i64 k ∧ Two wr w.heap.size (.int .u64 oe) (.int .i64 op) ∧ Aside (∀ x ∈ l.take k, x.w = me → oe = x.oe ∧ op = x.op) ∧ Aside (Below w.heap.size w wr)) (fun si _ => n - (intOf si).toNat)
  case atStart =>
    refine ⟨0, 0, 0, Nat.zero_le _, rfl, ⟨?_, ?_, ?_, ?_⟩, (fun x hx => by rw [List.take_zero] at hx; cases hx), (Below.refl _ _).alloc (Nat.le_refl _) _⟩
    all_goals simp
  case round =>
    obtain ⟨k, oe, op, hk, rfl, T, HA, HB⟩ := hrel
    by_cases hlt : k < n
    · obtain ⟨b, o, x, rfl, hx, hr⟩ := (HL.out.below HB.out).row hlt
      have c0 : wr.cell? ⟨b, o + k * 6, none⟩ = some (.int .i64 x.w) := hr 0 _ rfl
      have c1 : wr.cell? ⟨b, o + k * 6 + 1, none⟩ = some (.int .u64 x.oe) := hr 1 _ rfl
      have c2 : wr.cell? ⟨b, o + k * 6 + 2, none⟩ = some (.int .i64 x.op) := hr 2 _ rfl
      have HT := Lib.hid T
      obtain ⟨t0, t1, f0, f1⟩ := T
      have HX := Lib.hid hx
      clear hr
      cases he : (x.w == me) with
      | true =>
        have HA2 := Lib.hid (show ∀ z ∈ l.take (k + 1), z.w = me → x.oe = z.oe ∧ x.op = z.op from fun z hz hzw => by
          have e : z = x := HP.out.ap.one (List.mem_of_mem_take hz) (List.mem_of_getElem? hx) (by rw [hzw]; simpa using (beq_iff_eq.1 he).symm)
          rw [e]; exact ⟨rfl, rfl⟩)
        have HT2 := Lib.hid (HT.out.set (.int .u64 x.oe) (.int .i64 x.op))
        have HB2 : Hid (Below w.heap.size w ((wr.setCell ⟨w.heap.size, 0, none⟩ (.int .u64 x.oe)).setCell ⟨w.heap.size, 1, none⟩ (.int .i64 x.op))) := Lib.hid ((HB.out.setCell (by simp) _).setCell (by simp) _)
        generalize x.w = xw at *
        generalize x.oe = xe at *
        generalize x.op = xp at *
        clear hx
        go_wp2
        go_roundw
        case rel => exact ⟨k + 1, xe, xp, by omega, by go_num, HT2.out, HA2.out, HB2.out⟩
        case measure => simp [intOf]; omega
      | false =>
        have HA2 := Lib.hid (show ∀ z ∈ l.take (k + 1), z.w = me → oe = z.oe ∧ op = z.op from fun z hz hzw => by
          rw [take_snoc15' hx] at hz
          rcases List.mem_append.1 hz with hz | hz
          · exact HA.out z hz hzw
          · rw [List.mem_singleton.1 hz] at hzw; rw [hzw] at he; simp at he)
        generalize x.w = xw at *
        clear hx c1 c2
        go_wp2
        go_roundw
        case rel => exact ⟨k + 1, oe, op, by omega, by go_num, HT.out, HA2.out, HB.out⟩
        case measure => simp [intOf]; omega
    · have HE := Lib.hid (HA.out y (by rw [List.take_of_length_le (by rw [HLEN.out]; omega)]; exact HP.out.mem) HP.out.me)
      have K0 := Lib.hid (show CmSt w wr y (l.take 0) (.slice none 0 0) 0 from ⟨World.ownsRow_nil _ _ _ _, rfl, by rw [← HE.out.1, ← HE.out.2]; exact T, HB.out⟩)
      clear T HA HB HE
      go_wp2
      go_loopw [7, 8] (fun sv si wr => ∃ (k m c2 : Nat) (a2 : Option Addr), k ≤ n ∧ m ≤ k ∧ sv = .slice a2 m c2 ∧ si = .int .i64 k ∧ Aside (CmSt w wr y (l.take k) (.slice a2 m c2) m)) (fun _ si _ => n - (intOf si).toNat)
      case atStart => exact ⟨0, 0, 0, none, Nat.zero_le _, Nat.le_refl _, rfl, rfl, K0.out⟩
      case round =>
        obtain ⟨k, m, c2, a2, hk, hm, rfl, rfl, HS⟩ := hrel
        clear K0
        by_cases hlt : k < n
        · obtain ⟨b, o, x, rfl, hx, hr⟩ := (HL.out.below HS.out.bel).row hlt
          have c1 : wr.cell? ⟨b, o + k * 6 + 1, none⟩ = some (.int .u64 x.oe) := hr 1 _ rfl
          have c2' : wr.cell? ⟨b, o + k * 6 + 2, none⟩ = some (.int .i64 x.op) := hr 2 _ rfl
          obtain ⟨t0, t1, f0, f1⟩ := HS.out.two
          have HR := Lib.hid hr
          have HT := Lib.hid (take_snoc15' hx)
          have HEQ := Lib.hid (fun W => eq_conf15 9998 x.oe x.op y.oe y.op W)
          obtain ⟨bs, hbs⟩ : ∃ bs, bs = sameOld x y := ⟨_, rfl⟩
          have hEq : ∀ W, (Op.equalIn 10000 115 (.agg #[.int .u64 x.oe, .int .i64 x.op]) (.agg #[.int .u64 y.oe, .int .i64 y.op])).run Try.prog W = .ok bs W := fun W => by rw [hbs]; exact HEQ.out W
          have HBS := Lib.hid hbs
          clear hr hx HEQ hbs f0 f1
          obtain ⟨yoe, hyoe⟩ : ∃ yoe, yoe = y.oe := ⟨_, rfl⟩
          obtain ⟨yop, hyop⟩ : ∃ yop, yop = y.op := ⟨_, rfl⟩
          rw [← hyoe] at t0 hEq
          rw [← hyop] at t1 hEq
          clear hyoe hyop
          obtain ⟨xw, xe, xp, xa, xn, xc, cnt, kn, kp⟩ := x
          unfold encXg at HR
          simp only at c1 c2' hEq
          go_upto_region 11 with fail
          cases bs with
          | false =>
            go_quiet (fail)
            have S7 := Lib.hid (HS.out.later ((Grw.refl wr).drewN nq).below)
            have S8 := Lib.hid (S7.out.skip HBS.out.symm)
            rw [← HT.out] at S8
            clear t0 t1 c1 c2' hEq HS S7
            go_wp2
            go_roundw
            case rel => exact ⟨k + 1, m, c2, a2, by omega, by omega, rfl, by go_num, S8.out⟩
            case measure => simp [intOf]; omega
          | true =>
            go_quiet (fail)
            have D7 := ((Grw.refl wr).drewN nq).below
            have S7 := Lib.hid (HS.out.later D7)
            have HR7 := Lib.hid (show (wr.drewN nq).rangeAt b (o + k * 6) (encXg ⟨xw, xe, xp, xa, xn, xc, cnt, kn, kp⟩) from fun j u hj => cell_later D7 (HR.out j u hj))
            clear t0 t1 c1 c2' hEq HS D7 HR
            generalize wr.drewN nq = w7 at *
            have B8 := ((Grw.refl w7).alloc (.cells #[.int .i64 xw, .int .u64 xe, .int .i64 xp, .slice xa xn xc, .int .u64 kn, .int .i64 kp] 117)).below
            have S8 := Lib.hid (S7.out.later B8)
            have X8 : Hid (XgB (w7.alloc (.cells #[.int .i64 xw, .int .u64 xe, .int .i64 xp, .slice xa xn xc, .int .u64 kn, .int .i64 kp] 117)) w7.heap.size ⟨xw, xe, xp, xa, xn, xc, cnt, kn, kp⟩) := Lib.hid (XgB.new w7 ⟨xw, xe, xp, xa, xn, xc, cnt, kn, kp⟩)
            clear B8
            go_wp2_with (first
              | (refine load_xgm rfl (.tmp 43) rfl b (o + k * 6) ⟨xw, xe, xp, xa, xn, xc, cnt, kn, kp⟩ rfl HR7.out ?_)
              | (at_builtin; refine append_xg _ rfl (.tmp 40) (.tmp 45) rfl (w.heap.size + 1) (.slice a2 m c2) m _ rfl S8.out.own (some ⟨w7.heap.size, 0, none⟩) 1 1 [⟨xw, xe, xp, xa, xn, xc, cnt, kn, kp⟩] rfl (fun e => by cases e) (lst_xg1 X8.out) (by omega) S8.out.sz ?_; intro v9 w9 h1 h2)
              | fail)
            obtain ⟨a9, c9, rfl⟩ := own_form' h1
            have S9 := Lib.hid (S8.out.app HBS.out.symm h1 h2)
            rw [← HT.out] at S9
            clear h1 h2 S8 X8 HR7 S7
            go_roundw
            case rel => exact ⟨k + 1, m + 1, c9, a9, by omega, by omega, rfl, by go_num, S9.out⟩
            case measure => simp [intOf]; omega
        · have HT := Lib.hid (show l.take k = l from List.take_of_length_le (by rw [HLEN.out]; omega))
          have HS' := HS.out
          rw [HT.out] at HS'
          have HF := Lib.hid (show XgL wr a2 m (compL y l) from ⟨own_lst' encXg_length HS'.len HS'.own, fun z hz => ((HL.out.below HS'.bel).in_ z (List.mem_filter.1 hz).1)⟩)
          have HB := Lib.hid HS'.bel
          clear HS' HS
          go_wp2
          go_ret
          exact ⟨a2, m, c2, rfl, HF.out, by omega, HB.out⟩
end Go.Proofs.Ytfocjcdfpnbkjaa
