/- Plans: whose exchanges these are; where me's stands. -/
import Derived.Test.YthgdiihibjnhoaaPlJoin
import Derived.Test.YthgdiihibjnhoaaSize
set_option linter.unusedVariables false
set_option maxRecDepth 100000
set_option linter.unusedSimpArgs false
namespace Go.Proofs.Ythgdiihibjnhoaa
open Go.RowKit Go.Sort Go.Shelf

theorem xg_size : (Try.prog.info? 33).map (·.size) = some 6 := by kernel_rfl
theorem load_xgm {ops : Array Oper} {rest : List Oper} {o : Oper} {A : Act} {w : World} {Q : Exit → Act → World → Prop} (hgd : o.guard = none) (x : Operand) (ho : o.op = .load 33 x)
    (b q : Nat) (m : Xg) (hx : A.eval x = .pointer (some ⟨b, q, none⟩)) (hc : w.rangeAt b q (encXg m))
    (h : wpList Try.prog ops Q rest (A.put o.dst (.agg #[.int .i64 m.w, .int .u64 m.oe, .int .i64 m.op, .slice m.a m.n m.c, .int .u64 m.k.n, .int .i64 m.k.p])) w) : wpList Try.prog ops Q (o :: rest) A w :=
  wpList_load_mid hgd 33 x ho b q hx (encXg m) _ hc Try.underlying33 rfl xg_size h
/-- A slice of exchanges that came in. -/
structure XgL (w : World) (ao : Option Addr) (n : Nat) (l : List Xg) : Prop where
  at_ : Lst encXg 6 w ao n l
  in_ : ∀ x ∈ l, XgIn w x ∧ x.ok
theorem XgL.below {w w' : World} {ao : Option Addr} {n : Nat} {l : List Xg} (h : XgL w ao n l) (hb : Below w.heap.size w w') : XgL w' ao n l :=
  ⟨Lst.below h.at_ hb, fun x hx => ⟨(h.in_ x hx).1.below hb, (h.in_ x hx).2⟩⟩
theorem XgL.row {w : World} {ao : Option Addr} {n k : Nat} {l : List Xg} (h : XgL w ao n l) (hk : k < n) : ∃ b o x, ao = some ⟨b, o, none⟩ ∧ l[k]? = some x ∧ w.rangeAt b (o + k * 6) (encXg x) := by
  obtain ⟨b, o, e, hr⟩ := h.at_.src (by omega)
  have hl : k < l.length := by rw [h.at_.size]; exact hk
  exact ⟨b, o, l[k], e, List.getElem?_eq_getElem hl, fun j u hj => hr k _ (List.getElem?_eq_getElem hl) j u hj⟩
theorem csL_take {l : List Xg} {k : Nat} {x : Xg} (h : l[k]? = some x) : csL (l.take (k + 1)) = any (csL (l.take k)) (onl x.w) := by
  rw [List.take_add_one, h]; exact csL_snoc _ _
set_option maxHeartbeats 1000000 in
theorem pwhose {w : World} {ao : Option Addr} {n : Nat} {l : List Xg} (h : XgL w ao n l) (c : Nat) (hn : n ≤ 1048576) :
    Calls Try.prog 16 #[.slice ao n c] w fun e w' => e = .returned (.int .u64 (csL l : Nat)) ∧ Below w.heap.size w w' := by
  have HL := Lib.hid h
  have HLEN := Lib.hid h.at_.size
  clear h
  go_enter Try.func16, Try.ntmps16
  go_wp2
  go_loopw [3, 8] (fun so si wr => ∃ k : Nat, k ≤ n ∧ so = .int .u64 (csL (l.take k) : Nat) ∧ si = .int .i64 k ∧ Aside (Below w.heap.size w wr)) (fun _ si _ => n - (intOf si).toNat)
  case atStart => exact ⟨0, Nat.zero_le _, by rw [List.take_zero]; unfold csL; rw [List.map_nil, ofl_nil]; rfl, rfl, Below.refl _ _⟩
  case round =>
    obtain ⟨k, hk, rfl, rfl, HB⟩ := hrel
    by_cases hlt : k < n
    · obtain ⟨b, o, x, rfl, hx, hr⟩ := (HL.out.below HB.out).row hlt
      have HR := Lib.hid hr
      have hok := (HL.out.in_ x (List.mem_of_getElem? hx)).2
      have b0 := hok.w0
      have b1 := hok.w1
      have HS := Lib.hid (csL_take hx)
      have B4 := ((Grw.refl wr).alloc (.cells (encXg x).toArray 33)).below
      have X4 := Lib.hid (XgB.new wr x)
      have HB4 := Lib.hid (HB.out.trans (B4.mono HB.out.size))
      have hcl := csL_lt (l.take k)
      obtain ⟨s, hs⟩ : ∃ s, s = csL (l.take k) := ⟨_, rfl⟩
      rw [← hs] at HS hcl
      try rw [← hs]
      clear hs hr hx hok B4 HB
      obtain ⟨xw, xe, xp, xa, xn, xc, cnt, kn, kp⟩ := x
      unfold encXg at *
      go_upto_region 5 with (first | (refine load_xgm rfl (.tmp 10) rfl b (o + k * 6) ⟨xw, xe, xp, xa, xn, xc, cnt, kn, kp⟩ rfl HR.out ?_) | fail)
      generalize wr.alloc (.cells #[.int .i64 xw, .int .u64 xe, .int .i64 xp, .slice xa xn xc, .int .u64 kn, .int .i64 kp] 33) = w4 at *
      generalize wr.heap.size = mb at *
      clear HR
      have c0 : w4.cell? ⟨mb, 0, none⟩ = some (.int .i64 xw) := X4.out.own.at_ 0 _ rfl
      have PW := with_any s (some ⟨w4.heap.size, 0, none⟩) 1 1 [xw] (w4.alloc (.cells #[.int .i64 xw] 3)) hcl (InI.oneZ w4 xw b0 b1) (by decide)
      rw [ofl_oneZ, ← HS.out] at PW
      have HB5 := Lib.hid (HB4.out.trans ((((Grw.refl w4).alloc (.cells #[.int .i64 xw] 3)).below).mono HB4.out.size))
      obtain ⟨s2, hs2⟩ : ∃ s2, s2 = csL (l.take (k + 1)) := ⟨_, rfl⟩
      rw [← hs2] at PW
      have HS2 := Lib.hid hs2
      clear HS hcl X4 HB4 hs2
      go_wp2_with fail
      refine PW.mono ?_
      rintro e w5 ⟨rfl, rfl⟩
      clear PW
      go_wp2
      go_roundw
      case rel => exact ⟨k + 1, by omega, by rw [HS2.out], by go_num, HB5.out⟩
      case measure => simp [intOf]; omega
    · obtain rfl : k = n := by omega
      have HF := Lib.hid HB.out
      go_wp2
      go_ret
      exact ⟨by rw [List.take_of_length_le (by rw [HLEN.out]; exact Nat.le_refl _)]; rfl, HF.out⟩
/-- Where me's stands. -/
def IdxX (l : List Xg) (me : Int) (z : Int) : Prop := (z = -1 ∧ ∀ x ∈ l, x.w ≠ me) ∨ ∃ (k : Nat) (x : Xg), z = (k : Int) ∧ l[k]? = some x ∧ x.w = me
theorem pnew1 (x : Xg) (me : Int) (mb : Nat) (w : World) (hc : w.cell? ⟨mb, 0, none⟩ = some (.int .i64 me)) :
    Calls Try.prog 15 #[.agg (encXg x).toArray, .pointer (some ⟨mb, 0, none⟩)] w fun e w' => e = .returned (.bool (x.w == me)) ∧ Grw w w' := by
  have G := Lib.hid ((Grw.refl w).alloc (.cells (encXg x).toArray 33))
  have hm := World.block_lt_of_cell? (a := ⟨mb, 0, none⟩) _ hc
  simp only at hm
  have hne : mb ≠ w.heap.size := by omega
  obtain ⟨xw, xe, xp, xa, xn, xc, cnt, kn, kp⟩ := x
  unfold encXg at *
  go_enter Try.func15, Try.ntmps15
  go_wp2
  go_ret
  exact ⟨rfl, G.out⟩
set_option maxHeartbeats 1000000 in
theorem pidx {w : World} {ao : Option Addr} {n : Nat} {l : List Xg} (h : XgL w ao n l) (c : Nat) (hn : n ≤ 1048576) (me : Int) (mb : Nat) (hc : w.cell? ⟨mb, 0, none⟩ = some (.int .i64 me)) :
    Calls Try.prog 14 #[.slice ao n c, .func (.func 15) #[] #[.pointer (some ⟨mb, 0, none⟩)]] w fun e w' => ∃ z, e = .returned (.int .i64 z) ∧ IdxX l me z ∧ Below w.heap.size w w' := by
  have HL := Lib.hid h
  have HLEN := Lib.hid h.at_.size
  have HC := Lib.hid hc
  clear h hc
  go_enter Try.func14, Try.ntmps14
  go_wp2
  go_loopw [8] (fun si wr => ∃ k : Nat, k ≤ n ∧ si = .int .i64 k ∧ Aside (Below w.heap.size w wr) ∧ Aside (∀ (j : Nat) (y : Xg), j < k → l[j]? = some y → y.w ≠ me)) (fun si _ => n - (intOf si).toNat)
  case atStart => exact ⟨0, Nat.zero_le _, rfl, Below.refl _ w, fun j y hj => absurd hj (Nat.not_lt_zero _)⟩
  case round =>
    obtain ⟨k, hk, rfl, BW, A⟩ := hrel
    by_cases hlt : k < n
    · obtain ⟨b, o, x, rfl, hx, hr⟩ := (HL.out.below BW.out).row hlt
      have HR := Lib.hid hr
      have C := pnew1 x me mb wr (cell_later BW.out HC.out)
      have HX := Lib.hid hx
      clear hx hr
      obtain ⟨xw, xe, xp, xa, xn, xc, cnt, kn, kp⟩ := x
      unfold encXg at C HR
      simp only at C
      cases hq : (xw == me) with
      | true =>
        rw [hq] at C
        have HQ := Lib.hid (show xw = me by simpa using hq)
        clear hq
        go_wp2_with (first | (refine load_xgm rfl (.tmp 14) rfl b (o + k * 6) ⟨xw, xe, xp, xa, xn, xc, cnt, kn, kp⟩ rfl HR.out ?_) | (go_at_call 15; (with_reducible refine C.mono ?_); rintro e w' ⟨rfl, hb'⟩))
        go_ret
        exact ⟨_, rfl, .inr ⟨k, _, rfl, HX.out, HQ.out⟩, BW.out.trans (hb'.below.mono BW.out.size)⟩
      | false =>
        rw [hq] at C
        have HQ := Lib.hid (show xw ≠ me by simpa using hq)
        clear hq
        go_wp2_with (first | (refine load_xgm rfl (.tmp 14) rfl b (o + k * 6) ⟨xw, xe, xp, xa, xn, xc, cnt, kn, kp⟩ rfl HR.out ?_) | (go_at_call 15; (with_reducible refine C.mono ?_); rintro e w' ⟨rfl, hb'⟩))
        go_roundw
        case rel =>
          refine ⟨k + 1, by omega, by go_num, BW.out.trans (hb'.below.mono BW.out.size), (show Aside _ from fun j y hj hy => ?_)⟩
          by_cases e : j = k
          · subst e
            rw [HX.out] at hy
            cases hy
            exact HQ.out
          · exact A.out j y (by omega) hy
        case measure => simp [intOf]; omega
    · obtain rfl : k = n := by omega
      have HF := Lib.hid (show ∀ x ∈ l, x.w ≠ me from fun x hx => by
        obtain ⟨j, hj⟩ := List.getElem?_of_mem hx
        exact A.out j x (by have := (List.getElem?_eq_some_iff.1 hj).1; rw [HLEN.out] at this; exact this) hj)
      go_wp2
      go_ret
      exact ⟨_, rfl, .inl ⟨rfl, HF.out⟩, BW.out⟩
end Go.Proofs.Ythgdiihibjnhoaa
