/- Plans: Keep. -/
import Derived.Test.YthgdiihibjnhoaaPlNew2
import Derived.Test.YthgdiihibjnhoaaHdOwn
set_option linter.unusedVariables false
set_option maxRecDepth 100000
set_option linter.unusedSimpArgs false
namespace Go.Proofs.Ythgdiihibjnhoaa
open Go.RowKit Go.Sort Go.Shelf Go.Maps

theorem own_later15 {w w' : World} {base n : Nat} {t : TypeId} {v : Value} {xs : List Value} (h : w.ownsRow base t 6 v n xs) (hb : Below w.heap.size w w') : w'.ownsRow base t 6 v n xs := own_stays h fun j _ hl => hb.block j hl
theorem own_typ15 {w : World} {base n k : Nat} {t : TypeId} {v : Value} {xs : List Value} (h : w.ownsRow base t k v n xs) (j : Nat) (hj : some j = v.ownBlock) : base ≤ j ∧ ∃ cur, w.heap[j]? = some (.cells cur t (0, 0)) := by
  rcases h.2 with ⟨rfl, _⟩ | ⟨g, c, cur, rfl, h1, h3, _⟩
  · simp [Value.ownBlock] at hj
  · simp [Value.ownBlock] at hj
    subst hj
    exact ⟨h1, cur, h3⟩
/-- Amid Keep. -/
structure KpSt (w wr : World) (eb : Nat) (e : Nat → Int) (L : List Mg) (v : Value) (n : Nat) (X : List Mg) : Prop where
  en : EnB wr eb e
  own : wr.ownsRow w.heap.size 35 6 v n (flat encG X)
  len : X.length = n
  bel : Below w.heap.size w wr
  deps : ∀ x ∈ X, DpT wr (fun k => w.heap.size ≤ k) x
  str : X.map strip = L
section
variable {w wr w2 w' : World} {eb n : Nat} {e : Nat → Int} {L : List Mg} {v v' : Value} {X : List Mg}
theorem KpSt.later (h : KpSt w wr eb e L v n X) (hb : Below wr.heap.size wr w') : KpSt w w' eb e L v n X :=
  ⟨h.en.below hb, own_later15 h.own hb, h.len, h.bel.trans (hb.mono h.bel.size), fun x hx => (h.deps x hx).below hb, h.str⟩
/-- A block of messages of the call's own is laid anew. -/
theorem KpSt.set (h : KpSt w wr eb e L v n X) {mb : Nat} {m : Mg} (hm : MgB wr mb m) (hB : w.heap.size ≤ mb) (hn : some mb ≠ v.ownBlock) (j : Nat) (u : Value) : KpSt w (wr.setCell ⟨mb, j, none⟩ u) eb e L v n X := by
  have hk : ∀ i, i ≠ mb → (wr.setCell ⟨mb, j, none⟩ u).heap[i]? = wr.heap[i]? := fun i hi => heap_setCell_other wr ⟨mb, j, none⟩ i u hi
  refine ⟨h.en.kept (hk eb fun e1 => ?_), own_stays h.own fun i hi _ => hk i (fun e1 => hn (by rw [← e1]; exact hi.symm)), h.len, h.bel.setCell hB _, fun x hx => (h.deps x hx).kept fun ad ea => hk _ ((h.deps x hx).ne ad ea hm.own), h.str⟩
  have h1 := h.en.own.is
  rw [e1] at h1
  have := h1.symm.trans hm.own.is
  injection this with e2
  injection e2 with _ e3 _
  exact absurd e3 (by decide)
theorem KpSt.app (h : KpSt w wr eb e L v n X) {x : Mg} (hx : DpT wr (fun k => w.heap.size ≤ k) x) (ho : w'.ownsRow w.heap.size 35 6 v' (n + 1) (flat encG (X ++ [x]))) (hg : wr.grownBy w' v.ownBlock) : KpSt w w' eb e (L ++ [strip x]) v' (n + 1) (X ++ [x]) := by
  have kb : ∀ y, DpT wr (fun k => w.heap.size ≤ k) y → DpT w' (fun k => w.heap.size ≤ k) y := fun y hy => hy.kept fun ad ea => hg.block _ (hy.lt ad ea) fun e2 => by
    obtain ⟨_, cur, hc⟩ := own_typ15 h.own _ e2
    exact hy.ne ad ea hc rfl
  refine ⟨h.en.kept (hg.block eb h.en.lt fun e2 => ?_), ho, by rw [List.length_append, h.len]; rfl, h.bel.grown hg h.bel.size fun k hk => (own_typ15 h.own k hk.symm).1, fun y hy => ?_, by rw [List.map_append, h.str]; rfl⟩
  · obtain ⟨_, cur, hc⟩ := own_typ15 h.own _ e2
    have := h.en.own.is.symm.trans hc
    injection this with e3
    injection e3 with _ e4 _
    exact absurd e4 (by decide)
  · rcases List.mem_append.1 hy with hy | hy
    · exact kb y (h.deps y hy)
    · rw [List.mem_singleton.1 hy]; exact kb x hx
end
/-- What Keep answers. -/
def KeepSaid (w : World) (f : Nat → Wh) (R : List Mg) (ee : Ending) (w' : World) : Prop :=
  ∃ a n c X, ee = .returned (.slice a n c) ∧ w'.ownsRow w.heap.size 35 6 (.slice a n c) n (flat encG X) ∧ X.length = n ∧ (∀ x ∈ X, DpT w' (fun k => w.heap.size ≤ k) x) ∧ X.map strip = (keepL f R).map strip ∧ Below w.heap.size w w'
theorem filt_take {e : Nat → Int} {R : List Mg} {k : Nat} {x : Mg} (hx : R[k]? = some x) : ((R.take (k + 1)).filter (aheadE e)).map strip = ((R.take k).filter (aheadE e)).map strip ++ (if aheadE e x = true then [strip x] else []) := by
  rw [List.take_add_one, hx, List.filter_append, List.map_append]
  congr 1
  show List.map strip (List.filter (aheadE e) [x]) = _
  rw [List.filter_cons]
  split
  · rw [List.filter_nil]; rfl
  · rfl
section
variable {w : World} {g : Nat} {P : Pn}
set_option maxHeartbeats 4000000 in
theorem pkeep (h : PlB w g P) (hf : WhOk P.f) (ao : Option Addr) (n c : Nat) (R : List Mg) (hR : Lst encG 6 w ao n R) (hd : ∀ m ∈ R, MgN w m) (hn : n ≤ 1000) :
    Calls Try.prog 6 #[.pointer (some ⟨g, 0, none⟩), .slice ao n c] w (KeepSaid w P.f R) := by
  have PE := pends h hf ao n c R hR hd (by omega)
  have HRR := Lib.hid hR
  have HLEN := Lib.hid hR.size
  have HD := Lib.hid hd
  clear h hf hR hd
  go_enter Try.func6, Try.ntmps6
  go_wp2_with fail
  refine PE.mono ?_
  rintro ee w1 ⟨e, rfl, hok, hfix, B1⟩
  have HK := Lib.hid (keep_ends hok hfix)
  have L2 := ((Grw.refl w1).alloc (.cells (rowF vI64 fun _ => 0).toArray 65)).below
  have Z2 := Lib.hid (EnB.new w1 (fun _ => 0))
  have B2 := belowRow10 L2 w1.heap.size (Nat.le_refl _) (rowF vI64 e).toArray
  have K2 := Lib.hid (show KpSt w ((w1.alloc (.cells (rowF vI64 fun _ => 0).toArray 65)).setRow w1.heap.size (rowF vI64 e).toArray) w1.heap.size e (((R.take 0).filter (aheadE e)).map strip) (.slice none 0 0) 0 [] from
    ⟨Z2.out.row e, World.ownsRow_nil _ _ _ _, rfl, B1.trans (B2.mono B1.size), (fun x hx => by cases hx), rfl⟩)
  clear PE hok hfix L2 B2 B1
  change Hid (EnB (w1.alloc (.cells #[.int .u64 0, .int .u64 0, .int .u64 0, .int .u64 0, .int .u64 0, .int .u64 0, .int .u64 0, .int .u64 0, .int .u64 0, .int .u64 0, .int .u64 0, .int .u64 0, .int .u64 0, .int .u64 0, .int .u64 0, .int .u64 0, .int .u64 0, .int .u64 0, .int .u64 0, .int .u64 0, .int .u64 0, .int .u64 0, .int .u64 0, .int .u64 0, .int .u64 0, .int .u64 0, .int .u64 0, .int .u64 0, .int .u64 0, .int .u64 0, .int .u64 0, .int .u64 0, .int .u64 0, .int .u64 0, .int .u64 0, .int .u64 0, .int .u64 0, .int .u64 0, .int .u64 0, .int .u64 0, .int .u64 0, .int .u64 0, .int .u64 0, .int .u64 0, .int .u64 0, .int .u64 0, .int .u64 0, .int .u64 0, .int .u64 0, .int .u64 0, .int .u64 0, .int .u64 0, .int .u64 0, .int .u64 0, .int .u64 0, .int .u64 0, .int .u64 0, .int .u64 0, .int .u64 0, .int .u64 0, .int .u64 0, .int .u64 0, .int .u64 0, .int .u64 0] 65)) w1.heap.size _) at Z2
  change Hid (KpSt w ((w1.alloc (.cells #[.int .u64 0, .int .u64 0, .int .u64 0, .int .u64 0, .int .u64 0, .int .u64 0, .int .u64 0, .int .u64 0, .int .u64 0, .int .u64 0, .int .u64 0, .int .u64 0, .int .u64 0, .int .u64 0, .int .u64 0, .int .u64 0, .int .u64 0, .int .u64 0, .int .u64 0, .int .u64 0, .int .u64 0, .int .u64 0, .int .u64 0, .int .u64 0, .int .u64 0, .int .u64 0, .int .u64 0, .int .u64 0, .int .u64 0, .int .u64 0, .int .u64 0, .int .u64 0, .int .u64 0, .int .u64 0, .int .u64 0, .int .u64 0, .int .u64 0, .int .u64 0, .int .u64 0, .int .u64 0, .int .u64 0, .int .u64 0, .int .u64 0, .int .u64 0, .int .u64 0, .int .u64 0, .int .u64 0, .int .u64 0, .int .u64 0, .int .u64 0, .int .u64 0, .int .u64 0, .int .u64 0, .int .u64 0, .int .u64 0, .int .u64 0, .int .u64 0, .int .u64 0, .int .u64 0, .int .u64 0, .int .u64 0, .int .u64 0, .int .u64 0, .int .u64 0] 65)).setRow w1.heap.size (rowF vI64 e).toArray) w1.heap.size e _ _ _ _) at K2
  go_upto_region 2 with (first | (refine store_en rfl (.tmp 5) (.tmp 11) rfl w1.heap.size e rfl rfl Z2.out ?_) | fail)
  generalize (w1.alloc (.cells #[.int .u64 0, .int .u64 0, .int .u64 0, .int .u64 0, .int .u64 0, .int .u64 0, .int .u64 0, .int .u64 0, .int .u64 0, .int .u64 0, .int .u64 0, .int .u64 0, .int .u64 0, .int .u64 0, .int .u64 0, .int .u64 0, .int .u64 0, .int .u64 0, .int .u64 0, .int .u64 0, .int .u64 0, .int .u64 0, .int .u64 0, .int .u64 0, .int .u64 0, .int .u64 0, .int .u64 0, .int .u64 0, .int .u64 0, .int .u64 0, .int .u64 0, .int .u64 0, .int .u64 0, .int .u64 0, .int .u64 0, .int .u64 0, .int .u64 0, .int .u64 0, .int .u64 0, .int .u64 0, .int .u64 0, .int .u64 0, .int .u64 0, .int .u64 0, .int .u64 0, .int .u64 0, .int .u64 0, .int .u64 0, .int .u64 0, .int .u64 0, .int .u64 0, .int .u64 0, .int .u64 0, .int .u64 0, .int .u64 0, .int .u64 0, .int .u64 0, .int .u64 0, .int .u64 0, .int .u64 0, .int .u64 0, .int .u64 0, .int .u64 0, .int .u64 0] 65)).setRow w1.heap.size (rowF vI64 e).toArray = w2 at *
  clear Z2
  generalize w1.heap.size = eb at *
  go_wp2
  go_loopw [6, 14] (fun sv si wr => ∃ (k m c2 : Nat) (a2 : Option Addr) (X : List Mg), k ≤ n ∧ m ≤ k ∧ sv = .slice a2 m c2 ∧ si = .int .i64 k ∧ Aside (KpSt w wr eb e (((R.take k).filter (aheadE e)).map strip) (.slice a2 m c2) m X)) (fun _ si _ => n - (intOf si).toNat)
  case atStart => exact ⟨0, 0, 0, none, [], Nat.zero_le _, Nat.le_refl _, rfl, rfl, K2.out⟩
  case round =>
    obtain ⟨k, m, c2, a2, X, hk, hm, rfl, rfl, HS⟩ := hrel
    clear K2
    by_cases hlt : k < n
    · obtain ⟨b, o, rfl, hr⟩ := HRR.out.src (by omega)
      have hlt' : k < R.length := by rw [HLEN.out]; exact hlt
      obtain ⟨x, hx⟩ : ∃ x, R[k]? = some x := ⟨_, List.getElem?_eq_getElem hlt'⟩
      have HM := Lib.hid ((HD.out x (List.mem_of_getElem? hx)).below HS.out.bel)
      have HR := Lib.hid (show wr.rangeAt b (o + k * 6) (encG x) from fun j u hj => cell_later HS.out.bel (hr k x hx j u hj))
      have HT := Lib.hid (filt_take (e := e) hx)
      clear hr hx hlt'
      have B4 := ((Grw.refl wr).alloc (.cells (encG x).toArray 35)).below
      have HM4 := Lib.hid (HM.out.below B4)
      have S4 := Lib.hid (HS.out.later B4)
      have M4 := Lib.hid (MgB.new wr x)
      have hb4 := HS.out.bel.size
      have PA := pahead S4.out.en x HM.out.f0 HM.out.f1 HM.out.q0 HM.out.q1
      have hno : Hid (some wr.heap.size ≠ (Value.slice a2 m c2).ownBlock) := Lib.hid (fun e1 => by
        obtain ⟨_, cur, hc⟩ := own_typ15 HS.out.own _ e1
        have := (Array.getElem?_eq_some_iff.1 hc).1
        omega)
      obtain ⟨f, q, s, vv, a, dl, dc, deps, text⟩ := x
      unfold encG at *
      simp only at PA
      clear B4 HS HM
      go_upto_region 6 with (first | (refine load_mgm rfl (.tmp 16) rfl b (o + k * 6) ⟨f, q, s, vv, a, dl, dc, deps, text⟩ rfl HR.out ?_) | fail)
      generalize wr.alloc (.cells #[.int .i64 f, .int .u32 q, .int .u64 s, .int .i64 vv, .slice a dl dc, .string text] 35) = w4 at *
      generalize wr.heap.size = mb at *
      clear HR
      have c0 : w4.cell? ⟨mb, 0, none⟩ = some (.int .i64 f) := M4.out.own.at_ 0 _ rfl
      have c1 : w4.cell? ⟨mb, 1, none⟩ = some (.int .u32 q) := M4.out.own.at_ 1 _ rfl
      have d2 : w4.cell? ⟨mb, 2, none⟩ = some (.int .u64 s) := M4.out.own.at_ 2 _ rfl
      have c3 : w4.cell? ⟨mb, 3, none⟩ = some (.int .i64 vv) := M4.out.own.at_ 3 _ rfl
      have c4 : w4.cell? ⟨mb, 4, none⟩ = some (.slice a dl dc) := M4.out.own.at_ 4 _ rfl
      have c5 : w4.cell? ⟨mb, 5, none⟩ = some (.string text) := M4.out.own.at_ 5 _ rfl
      obtain ⟨ba, hba⟩ : ∃ ba, ba = aheadE e ⟨f, q, s, vv, a, dl, dc, deps, text⟩ := ⟨_, rfl⟩
      rw [← hba] at PA HT
      clear hba
      go_wp2_with fail
      with_reducible refine PA.mono ?_
      rintro e5 w5 ⟨rfl, hG⟩
      have S5 := Lib.hid (S4.out.later hG.below)
      have M5 := Lib.hid (M4.out.later hG.below)
      have HM5 := Lib.hid (HM4.out.below hG.below)
      clear PA hG c0 c1 d2 c3 c4 c5 S4 M4 HM4
      cases ba with
      | false =>
        have HT2 := Lib.hid (show ((R.take (k + 1)).filter (aheadE e)).map strip = ((R.take k).filter (aheadE e)).map strip by rw [HT.out]; simp)
        have S6 := S5.out
        rw [← HT2.out] at S6
        have HS6 := Lib.hid S6
        clear S6 S5 HT HT2
        go_wp2
        go_roundw
        case rel => exact ⟨k + 1, m, c2, a2, X, by omega, by omega, rfl, by go_num, HS6.out⟩
        case measure => simp [intOf]; omega
      | true =>
        have c4 : w5.cell? ⟨mb, 4, none⟩ = some (.slice a dl dc) := M5.out.own.at_ 4 _ rfl
        have PC := cloneT a dl dc deps w5 HM5.out.few HM5.out.at_
        go_wp2_with fail
        refine PC.mono ?_
        rintro e6 w6 ⟨a', dc', rfl, hl6, hb6, B6⟩
        have S6 := Lib.hid (S5.out.later B6)
        have M6 := Lib.hid (M5.out.later B6)
        have hmb6 := M5.out.lt
        have hbs := B6.size
        have hbs5 := S5.out.bel.size
        have f4 := M6.out.own.free 4
        have c4 : w6.cell? ⟨mb, 4, none⟩ = some (.slice a dl dc) := M6.out.own.at_ 4 _ rfl
        have S7 := Lib.hid (S6.out.set M6.out hb4 hno.out 4 (.slice a' dl dc'))
        have M7 : Hid (MgB (w6.setCell ⟨mb, 4, none⟩ (.slice a' dl dc')) mb ⟨f, q, s, vv, a', dl, dc', deps, text⟩) := Lib.hid (by
          have := Own.set M6.out.own 4 (.slice a' dl dc')
          exact this)
        have HX7 : Hid (DpT (w6.setCell ⟨mb, 4, none⟩ (.slice a' dl dc')) (fun j => w.heap.size ≤ j) ⟨f, q, s, vv, a', dl, dc', deps, text⟩) := Lib.hid (by
          have h1 : DpT w6 (fun j => w.heap.size ≤ j) ⟨f, q, s, vv, a', dl, dc', deps, text⟩ := ⟨hl6, HM5.out.few, fun ad ea => ⟨by have := (hb6 ad ea).1; omega, (hb6 ad ea).2⟩⟩
          exact h1.kept fun ad ea => heap_setCell_other w6 ⟨mb, 4, none⟩ _ _ (fun e1 => h1.ne ad ea M6.out.own e1))
        clear PC hl6 hb6 B6 S5 M5 S6 HM5
        go_upto_region 8 with fail
        clear c4 f4 M6
        generalize w6.setCell ⟨mb, 4, none⟩ (.slice a' dl dc') = w7 at *
        have c0 : w7.cell? ⟨mb, 0, none⟩ = some (.int .i64 f) := M7.out.own.at_ 0 _ rfl
        have c1 : w7.cell? ⟨mb, 1, none⟩ = some (.int .u32 q) := M7.out.own.at_ 1 _ rfl
        have d2 : w7.cell? ⟨mb, 2, none⟩ = some (.int .u64 s) := M7.out.own.at_ 2 _ rfl
        have c3 : w7.cell? ⟨mb, 3, none⟩ = some (.int .i64 vv) := M7.out.own.at_ 3 _ rfl
        have c4 : w7.cell? ⟨mb, 4, none⟩ = some (.slice a' dl dc') := M7.out.own.at_ 4 _ rfl
        have c5 : w7.cell? ⟨mb, 5, none⟩ = some (.string text) := M7.out.own.at_ 5 _ rfl
        have L8 := ((Grw.refl w7).alloc (.cells #[.int .i64 f, .int .u32 q, .int .u64 s, .int .i64 vv, .slice a' dl dc', .string text] 35)).below
        have S8 := Lib.hid (S7.out.later L8)
        have X8 := Lib.hid (HX7.out.below L8)
        have N8 := Lib.hid (MgB.new w7 ⟨f, q, s, vv, a', dl, dc', deps, text⟩)
        have HL8 : Hid (Lst encG 6 (w7.alloc (.cells #[.int .i64 f, .int .u32 q, .int .u64 s, .int .i64 vv, .slice a' dl dc', .string text] 35)) (some ⟨w7.heap.size, 0, none⟩) 1 [⟨f, q, s, vv, a', dl, dc', deps, text⟩]) := Lib.hid ⟨rfl, fun _ => ⟨w7.heap.size, 0, rfl, fun i y hy j u hu => by
          cases i with
          | zero =>
            cases hy
            rw [show 0 + 0 * 6 + j = j by omega]
            exact N8.out.own.at_ j u (by rw [← List.getElem?_toArray] at hu; exact hu)
          | succ i => cases hy⟩⟩
        clear L8 S7 HX7 M7 N8
        go_wp2_with (at_builtin; refine append_mg _ rfl (.tmp 24) (.tmp 26) rfl w.heap.size (.slice a2 m c2) m _ rfl S8.out.own (some ⟨w7.heap.size, 0, none⟩) 1 1 _ rfl (fun h => by cases h) HL8.out (by omega) S8.out.bel.size ?_; intro v9 w9 h1 h2)
        rw [← flat_append] at h1
        obtain ⟨a9, c9, rfl⟩ := own_form' h1
        have S9 := S8.out.app X8.out h1 h2
        have HT2 := Lib.hid (show ((R.take (k + 1)).filter (aheadE e)).map strip = ((R.take k).filter (aheadE e)).map strip ++ [strip ⟨f, q, s, vv, a', dl, dc', deps, text⟩] by rw [HT.out]; rfl)
        rw [← HT2.out] at S9
        have HS9 := Lib.hid S9
        clear h1 h2 S9 S8 X8 HL8 HT HT2 c0 c1 d2 c3 c4 c5
        go_roundw
        case rel => exact ⟨k + 1, m + 1, c9, a9, _, by omega, by omega, rfl, by go_num, HS9.out⟩
        case measure => simp [intOf]; omega
    · obtain rfl : k = n := by omega
      have HF := Lib.hid HS.out
      clear HS
      go_wp2
      go_ret
      refine ⟨a2, m, c2, X, rfl, HF.out.own, HF.out.len, HF.out.deps, ?_, HF.out.bel⟩
      rw [HF.out.str, List.take_of_length_le (by rw [HLEN.out]; exact Nat.le_refl _), HK.out]
end
end Go.Proofs.Ythgdiihibjnhoaa
