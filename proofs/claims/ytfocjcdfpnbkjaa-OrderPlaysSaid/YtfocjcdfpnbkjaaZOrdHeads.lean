/- heads, ripe, Trim. -/
import Derived.Test.YtfocjcdfpnbkjaaZOrdFns
import Derived.Laws.OwnMore
set_option linter.unusedVariables false
set_option maxRecDepth 100000
set_option linter.unusedSimpArgs false
namespace Go.Proofs.Ytfocjcdfpnbkjaa
open Go.RowKit Go.Sort Go.Shelf

/-- 'append' of a row that may be empty onto a row of the call's own. -/
theorem wp_append_rows {w : World} {o : Oper} {a : Act} {K : Act → World → Prop} {Q : Exit → Act → World → Prop} (sx x : Operand)
    (ho : o.op = .call { callee := .builtin .append, args := #[sx, x], argTypes := #[29, 29] })
    (base : Nat) (v : Value) (n : Nat) (X : List Mg) (hs : a.eval sx = v) (hown : w.ownsRow base 47 6 v n (flat encG X)) (t : Sl) (Y : List Mg) (hx : a.eval x = .slice t.a t.n t.c) (ht : SlotAt w t Y) (hn : n + t.n ≤ 200000) (hbase : base ≤ w.heap.size)
    (hK : ∀ v' w', w'.ownsRow base 47 6 v' (n + t.n) (flat encG (X ++ Y)) → w.grownBy w' v.ownBlock → K (a.put o.dst v') w') : o.wp Try.prog a w K Q := by
  obtain ⟨i0, hi, hz0, hz1, hz2⟩ := info_parts infoMg
  have htt := Try.underlying29
  obtain ⟨ta, tn, tc⟩ := t
  simp only at hx hn hK
  cases ta with
  | none =>
    have h0 : tc = 0 := ht.cap0 rfl
    have h1 : tn = 0 := by
      rcases ht with ⟨e, _⟩ | ⟨b, off, e, _⟩
      · injection e
      · cases e
    subst h0 h1
    have hY : Y = [] := List.eq_nil_of_length_eq_zero ht.len
    subst hY
    have hrun := run_append_owned_none (P := Try.prog) (w := w) base 29 o.type 47 i0 6 htt hi v n (flat encG X) hown
    unfold Oper.wp execOp
    simp [ho, resolve, invoke, builtin, hs, hx, hrun, Result.andThen]
    refine hK v w ?_ (World.grownBy.refl w _)
    rw [List.append_nil, Nat.add_zero]; exact hown
  | some ad =>
    have hl := ht.lst
    have hfl : (flat encG Y).length = tn * 6 := by rw [flat_length encG 6 encG_length, hl.size]
    obtain ⟨v', w', hr, h2, h3, _⟩ := run_append_own (P := Try.prog) w base 29 o.type 47 i0 zeroMg 6 72 htt hi hz0 hz1 hz2 rfl (by decide) v n (flat encG X) hown ad tn tc (flat encG Y) hfl (fun j u hu => by
      have hj : 0 < tn := by
        have := (List.getElem?_eq_some_iff.1 hu).1
        omega
      obtain ⟨b, o', e', R⟩ := hl.src hj
      cases e'
      rw [add_lit10]
      exact R.flat encG_length j u hu) flatG_one (by unfold maxLen; omega) (by omega) hbase
    rw [← flat_append] at h2
    unfold Oper.wp execOp
    simp only [ho, resolve, invoke, builtin, Sem.run_bind, Sem.run_pure, Result.andThen_ok, List.map_toArray, List.map_cons, List.map_nil, hs, hx, hr]
    exact hK v' w' h2 h3
theorem own_later {w w' : World} {base n : Nat} {t : TypeId} {v : Value} {xs : List Value} (h : w.ownsRow base t 6 v n xs) (hb : Below w.heap.size w w') : w'.ownsRow base t 6 v n xs := by
  refine ⟨h.1, ?_⟩
  rcases h.2 with h1 | ⟨g, c, cur, e, h1, h3, h4⟩
  · exact .inl h1
  · exact .inr ⟨g, c, cur, e, h1, (hb.block g (Array.getElem?_eq_some_iff.1 h3).1).trans h3, h4⟩
/-- Amid heads. -/
structure HeadSt (w wr : World) (L : List Mg) (v : Value) (n : Nat) (X : List Mg) : Prop where
  own : wr.ownsRow w.heap.size 47 6 v n (flat encG X)
  len : X.length = n
  bel : Below w.heap.size w wr
  deps : ∀ x ∈ X, DpT wr (fun k => w.heap.size ≤ k) x
  str : X.map strip = L
theorem HeadSt.later {w wr w' : World} {L : List Mg} {v : Value} {n : Nat} {X : List Mg} (h : HeadSt w wr L v n X) (hb : Below wr.heap.size wr w') : HeadSt w w' L v n X :=
  ⟨own_later h.own hb, h.len, h.bel.trans (hb.mono h.bel.size), fun x hx => (h.deps x hx).below hb, h.str⟩
theorem own_typ {w : World} {base n : Nat} {v : Value} {xs : List Value} (h : w.ownsRow base 47 6 v n xs) (k : Nat) (hk : some k = v.ownBlock) : base ≤ k ∧ ∃ cur, w.heap[k]? = some (.cells cur 47 (0, 0)) := by
  rcases h.2 with ⟨rfl, _⟩ | ⟨g, c, cur, rfl, h1, h3, _⟩
  · simp [Value.ownBlock] at hk
  · simp [Value.ownBlock] at hk
    subst hk
    exact ⟨h1, cur, h3⟩
theorem HeadSt.more {w wr w2 w' : World} {L L2 : List Mg} {v v' : Value} {n m : Nat} {X Y : List Mg} (h : HeadSt w wr L v n X) (hb : Below wr.heap.size wr w2) (hO : ∀ y ∈ Y, DpT w2 (fun k => wr.heap.size ≤ k) y) (hY : Y.map strip = L2) (hm : Y.length = m) (ho : w'.ownsRow w.heap.size 47 6 v' (n + m) (flat encG (X ++ Y))) (hg : w2.grownBy w' v.ownBlock) : HeadSt w w' (L ++ L2) v' (n + m) (X ++ Y) := by
  have h2 := h.later hb
  have hs := h.bel.size
  have hs2 := h2.bel.size
  have kb : ∀ x, DpT w2 (fun k => w.heap.size ≤ k) x → DpT w' (fun k => w.heap.size ≤ k) x := fun x hx => hx.kept fun ad e => hg.block _ (hx.lt ad e) fun e2 => by
    obtain ⟨_, cur, hc⟩ := own_typ h2.own _ e2
    exact hx.ne ad e hc rfl
  refine ⟨ho, by rw [List.length_append, h.len, hm], h2.bel.grown hg h2.bel.size fun k hk => (own_typ h2.own k hk.symm).1, fun x hx => ?_, by rw [List.map_append, h.str, hY]⟩
  rcases List.mem_append.1 hx with hx | hx
  · exact kb x (h2.deps x hx)
  · exact kb x ((hO x hx).more fun k _ hk => Nat.le_trans hs hk)
section
variable {w : World} {E : Nat → Prop} {g N : Nat} {O : Od}
theorem R_strip' {F : Nat → Prop} {S : Hs} (h : HRep w F g N S) (p : Nat) : (S.R p).map strip = S.R p := by
  obtain ⟨sl, X, h1, h2⟩ := h.ex
  exact R_strip h2 p
def HeadsSaid (w : World) (L : List Mg) (e : Ending) (w' : World) : Prop := ∃ a n c X, e = .returned (.slice a n c) ∧ w'.ownsRow w.heap.size 47 6 (.slice a n c) n (flat encG X) ∧ X.length = n ∧ (∀ x ∈ X, DpT w' (fun k => w.heap.size ≤ k) x) ∧ X.map strip = L ∧ Below w.heap.size w w'
set_option maxHeartbeats 8000000 in
theorem oheads (h : ORep w E g N O) (hN : N ≤ 1000) :
    Calls Try.prog 104 #[.pointer (some ⟨g, 0, none⟩)] w (HeadsSaid w (headsO O)) := by
  obtain ⟨gh, gz, F, zs, h⟩ := h.ex
  have c3 := h.c3
  have P1 := list_any O.ms w h.ok.m
  have HO := Lib.hid h
  have HLST := Lib.hid (fun p => (lst_mem O.ms p).1)
  have hcd : card O.ms ≤ 64 := card_le O.ms
  have hln : (lst O.ms).length = card O.ms := lst_length O.ms
  change Calls Try.prog 104 _ _ (HeadsSaid w (headsK O (lst O.ms)))
  clear h
  generalize lst O.ms = l at *
  generalize hn : card O.ms = n at *
  have HLN := Lib.hid hln
  clear hn hln
  go_enter Try.func104, Try.ntmps104
  go_wp2_with fail
  refine P1.mono ?_
  rintro e w1 ⟨rfl, I1, B1⟩
  have H0 : Hid (HeadSt w1 w1 (headsK O (l.take 0)) (.slice none 0 0) 0 []) := Lib.hid ⟨World.ownsRow_nil w1 _ _ _, rfl, Below.refl _ _, (fun x hx => by cases hx), rfl⟩
  have HI := Lib.hid I1
  have HB1 := Lib.hid B1
  clear B1 I1 P1
  obtain ⟨lb, hlb⟩ : ∃ lb, lb = w.heap.size := ⟨_, rfl⟩
  rw [← hlb] at HI
  try rw [← hlb]
  have HLBE := Lib.hid hlb
  clear hlb
  go_wp2_with fail
  go_loopw [3, 12] (fun so si wr => ∃ (k : Nat) (a : Option Addr) (m c : Nat) (X : List Mg), k ≤ n ∧ si = .int .i64 k ∧ so = .slice a m c ∧ Hid (HeadSt w1 wr (headsK O (l.take k)) (.slice a m c) m X)) (fun _ si _ => n - (intOf si).toNat)
  case atStart => exact ⟨0, none, 0, 0, [], Nat.zero_le _, rfl, rfl, H0⟩
  case round =>
    obtain ⟨k, a, m, c, X, hk, rfl, rfl, HS⟩ := hrel
    by_cases hlt : k < n
    · have hkl : k < l.length := by rw [HLN.out]; exact hlt
      obtain ⟨p, hp⟩ : ∃ p, l[k]? = some p := ⟨_, List.getElem?_eq_getElem hkl⟩
      have hp64 : p < 64 := (HLST.out p (List.mem_of_getElem? hp)).1
      obtain ⟨ad, had, hcad⟩ := HI.out.src k (p : Int) (by unfold ints; rw [List.getElem?_map, hp]; rfl)
      injection had with had
      subst had
      rw [add_lit10] at hcad
      have hcp : wr.cell? ⟨lb, k, none⟩ = some (.int .i64 (p : Int)) := by
        have := cell_later HS.out.bel hcad
        rwa [Nat.zero_add] at this
      have HNX := Lib.hid (headsK_next O l k p hp)
      have hp' : (p : Int) < 64 := by omega
      have hdn : O.dn p ≤ 1000 := by
        have h1 := HO.out.ok.dc p hp64
        have h2 := HO.out.hold.bnd p hp64
        omega
      have HML : Hid (m ≤ 64) := Lib.hid (by
        have h1 := headsK_len O (l.take k)
        rw [← HS.out.str, List.length_map, HS.out.len, List.length_take] at h1
        omega)
      clear hp hkl hcad
      go_upto_region 5 with fail
      have hO0 := ((HO.out.below (HLBE.out ▸ HB1.out)).below HS.out.bel).below (Grw.refl wr).drew.below
      have HS0 := Lib.hid (HS.out.later (Grw.refl wr).drew.below)
      refine wp_region_held_drew (S := fun w' => OAt w' E g gh gz N F zs O) (by kernel_rfl) hO0 (fun hHeld => ?_)
      clear HS hcp
      generalize wr.drew = W0 at *
      have HO0 := Lib.hid hO0
      clear hO0
      obtain ⟨d, hd⟩ : ∃ d, d = O.dn p := ⟨_, rfl⟩
      have HD := Lib.hid hd
      have hd1 : d ≤ 1000 := by omega
      clear hd hdn
      refine stake (i := 0) (v := (.slice a m c)) 16 rfl (by kernel_rfl) (by kernel_rfl) (by kernel_rfl) (by kernel_rfl) (fun _ _ _ h => h) (.inl ⟨by kernel_rfl, fun w' hS => by (go_simp)⟩) hHeld ?_
      (try simp only [Act.put, List.setIfInBounds_toArray, List.set_cons_zero, List.set_cons_succ])
      refine stake (i := 1) (v := (.pointer (some ⟨g, 0, none⟩))) 17 rfl (by kernel_rfl) (by kernel_rfl) (by kernel_rfl) (by kernel_rfl) (fun _ _ _ h => h) (.inl ⟨by kernel_rfl, fun w' hS => by (go_simp)⟩) hHeld ?_
      (try simp only [Act.put, List.setIfInBounds_toArray, List.set_cons_zero, List.set_cons_succ])
      refine stake (i := 2) (v := (.pointer (some ⟨g, 0, none⟩))) 18 rfl (by kernel_rfl) (by kernel_rfl) (by kernel_rfl) (by kernel_rfl) (fun _ _ _ h => h) (.inl ⟨by kernel_rfl, fun w' hS => by (go_simp)⟩) hHeld ?_
      (try simp only [Act.put, List.setIfInBounds_toArray, List.set_cons_zero, List.set_cons_succ])
      refine stake (i := 3) (v := (.pointer (some ⟨g, 0, none⟩))) 19 rfl (by kernel_rfl) (by kernel_rfl) (by kernel_rfl) (by kernel_rfl) (fun _ _ _ h => h) (.inl ⟨by kernel_rfl, fun w' hS => by (go_simp)⟩) hHeld ?_
      (try simp only [Act.put, List.setIfInBounds_toArray, List.set_cons_zero, List.set_cons_succ])
      refine stake (i := 4) (v := (.pointer (some ⟨gh, 0, none⟩))) 20 rfl (by kernel_rfl) (by kernel_rfl) (by kernel_rfl) (by kernel_rfl) (fun _ _ _ h => h) (.inl ⟨by kernel_rfl, fun w' hS => by (have hc := hS.c0; go_simp)⟩) hHeld ?_
      (try simp only [Act.put, List.setIfInBounds_toArray, List.set_cons_zero, List.set_cons_succ])
      refine stake (i := 5) (v := (.int .i64 (p : Int))) 21 rfl (by kernel_rfl) (by kernel_rfl) (by kernel_rfl) (by kernel_rfl) (fun _ _ _ h => h) (.inl ⟨by kernel_rfl, fun w' hS => by (go_simp)⟩) hHeld ?_
      (try simp only [Act.put, List.setIfInBounds_toArray, List.set_cons_zero, List.set_cons_succ])
      refine stake (i := 6) (v := (.pointer (some ⟨g, 0, none⟩))) 22 rfl (by kernel_rfl) (by kernel_rfl) (by kernel_rfl) (by kernel_rfl) (fun _ _ _ h => h) (.inl ⟨by kernel_rfl, fun w' hS => by (go_simp)⟩) hHeld ?_
      (try simp only [Act.put, List.setIfInBounds_toArray, List.set_cons_zero, List.set_cons_succ])
      refine stake (i := 7) (v := (.int .i64 (p : Int))) 23 rfl (by kernel_rfl) (by kernel_rfl) (by kernel_rfl) (by kernel_rfl) (fun _ _ _ h => h) (.inl ⟨by kernel_rfl, fun w' hS => by (go_simp)⟩) hHeld ?_
      (try simp only [Act.put, List.setIfInBounds_toArray, List.set_cons_zero, List.set_cons_succ])
      refine stake (i := 8) (v := (.pointer (some ⟨g, 0, none⟩))) 24 rfl (by kernel_rfl) (by kernel_rfl) (by kernel_rfl) (by kernel_rfl) (fun _ _ _ h => h) (.inl ⟨by kernel_rfl, fun w' hS => by (go_simp)⟩) hHeld ?_
      (try simp only [Act.put, List.setIfInBounds_toArray, List.set_cons_zero, List.set_cons_succ])
      refine stake (i := 9) (v := (.pointer (some ⟨g, 4, none⟩))) 25 rfl (by kernel_rfl) (by kernel_rfl) (by kernel_rfl) (by kernel_rfl) (fun _ _ _ h => h) (.inl ⟨by kernel_rfl, fun w' hS => by (go_simp)⟩) hHeld ?_
      (try simp only [Act.put, List.setIfInBounds_toArray, List.set_cons_zero, List.set_cons_succ])
      refine stake (i := 10) (v := (.pointer (some ⟨g, 4 + p * 2, none⟩))) 26 rfl (by kernel_rfl) (by kernel_rfl) (by kernel_rfl) (by kernel_rfl) (fun _ _ _ h => h) (.inl ⟨by kernel_rfl, fun w' hS => by (go_simp)⟩) hHeld ?_
      (try simp only [Act.put, List.setIfInBounds_toArray, List.set_cons_zero, List.set_cons_succ])
      refine stake (i := 11) (v := (.pointer (some ⟨g, 4 + p * 2 + 1, none⟩))) 27 rfl (by kernel_rfl) (by kernel_rfl) (by kernel_rfl) (by kernel_rfl) (fun _ _ _ h => h) (.inl ⟨by kernel_rfl, fun w' hS => by (go_simp)⟩) hHeld ?_
      (try simp only [Act.put, List.setIfInBounds_toArray, List.set_cons_zero, List.set_cons_succ])
      refine stake (i := 12) (v := (.int .u32 (d : Int))) 28 rfl (by kernel_rfl) (by kernel_rfl) (by kernel_rfl) (by kernel_rfl) (fun _ _ _ h => h) (.inl ⟨by kernel_rfl, fun w' hS => by (have hc := hS.t1 p hp64; rw [← HD.out] at hc; go_simp)⟩) hHeld ?_
      (try simp only [Act.put, List.setIfInBounds_toArray, List.set_cons_zero, List.set_cons_succ])
      refine stake (i := 13) (v := (.int .u32 ((d : Int) + 1))) 29 rfl (by kernel_rfl) (by kernel_rfl) (by kernel_rfl) (by kernel_rfl) (fun _ _ _ h => h) (.inl ⟨by kernel_rfl, fun w' hS => by (have hw : IntKind.u32.wrap ((d : Int) + 1) = (d : Int) + 1 := IntWalk.u32_in _ (by omega); go_simp)⟩) hHeld ?_
      (try simp only [Act.put, List.setIfInBounds_toArray, List.set_cons_zero, List.set_cons_succ])
      refine wpAnyH_ready (rs := [14]) (by kernel_rfl) (by simp) (AllReadyH.cons rfl (fun K hK => ?_) AllReadyH.nil)
      have hcall := hs_from HO0.out.hold hN (p : Int) (d + 1) (by omega) 1 (by decide) (by decide)
      rw [onP_yes _ _ _ hp64, onP_yes _ _ _ hp64] at hcall
      have HHD := Lib.hid (show fromX (O.S.lo p) (O.S.R p) (d + 1) 1 = hdO O p by unfold hdO; rw [HD.out])
      rw [HHD.out, show ((d + 1 : Nat) : Int) = (d : Int) + 1 by omega] at hcall
      have hST := hHeld
      clear hHeld
      rw [if_pos (by kernel_rfl)]
      go_simp
      refine hcall.mono ?_
      rintro e W1 ⟨s, Y, rfl, hOR, hY, hB⟩
      refine hK.out _ _ (hST.below hB) (fun hHeld => ?_)
      (try simp only [Act.put, List.setIfInBounds_toArray, List.set_cons_zero, List.set_cons_succ])
      have hY2 : Y.map strip = hdO O p := by
        rw [hY]
        have h1 := R_strip' HO0.out.hold p
        unfold hdO fromX
        rw [List.map_take, List.map_drop, h1]
      have hYl : s.n ≤ 1 := by
        have h1 := congrArg List.length hY2
        rw [List.length_map, hdO_eq, hOR.slot.len] at h1
        rw [h1]
        cases (O.S.R p)[O.dn p - O.S.lo p]? <;> simp
      have hO1 := hST.below hB
      have HS1 := HS0.out.later hB
      have HY := Lib.hid (And.intro hOR (And.intro hY2 hB))
      clear hK K hcall hST hOR hY hY2 hB
      refine wpAnyH_ready (rs := [15]) (by kernel_rfl) (by simp) (AllReadyH.cons rfl (fun K hK => ?_) AllReadyH.nil)
      clear hHeld
      rw [if_pos (by kernel_rfl)]
      refine wp_append_rows (.tmp 16) (.tmp 30) rfl w1.heap.size (.slice a m c) m X rfl HS1.own s Y rfl HY.out.1.slot (by have := HML.out; omega) HS1.bel.size (fun v' W2 ho hg => ?_)
      have HS2 := HS0.out.more HY.out.2.2 HY.out.1.deps HY.out.2.1 HY.out.1.slot.len ho hg
      have hO2 : OAt W2 E g gh gz N F zs O := hO1.kept hg.size fun j hj => hg.block j (hO1.lim j hj) fun e2 => by
        have h1 := (own_typ HS1.own j e2).1
        have h2 := HO.out.lim j hj
        have h3 := HB1.out.size
        have h4 := HLBE.out
        omega
      refine hK.out _ _ hO2 (fun hHeld => ?_)
      clear hK K hO1 hO2 HS1 ho hg
      (try simp only [Act.put, List.setIfInBounds_toArray, List.set_cons_zero, List.set_cons_succ])
      obtain ⟨a', c', rfl⟩ := own_form' HS2.own
      have HS2 := Lib.hid HS2
      refine stake (i := 16) (v := (.slice a' (m + s.n) c')) 3 rfl (by kernel_rfl) (by kernel_rfl) (by kernel_rfl) (by kernel_rfl) (fun _ _ _ h => h) (.inl ⟨by kernel_rfl, fun w' hS => by (go_simp)⟩) hHeld ?_
      (try simp only [Act.put, List.setIfInBounds_toArray, List.set_cons_zero, List.set_cons_succ])
      refine wpAnyH_done (by kernel_rfl) ?_ _
      clear hHeld
      go_wp2
      go_roundw
      case rel => exact ⟨k + 1, a', m + s.n, c', _, by omega, by go_num, rfl, Lib.hid (by rw [HNX.out]; exact HS2.out)⟩
      case measure => simp [intOf]; omega
    · obtain rfl : k = n := by omega
      have HE := Lib.hid (show l.take k = l from List.take_of_length_le (by rw [HLN.out]; exact Nat.le_refl _))
      go_wp2
      go_ret
      have hs := HS.out
      rw [HE.out] at hs
      have h3 := HB1.out.size
      have h4 := HLBE.out
      have hb1 := HB1.out
      exact ⟨a, m, c, X, rfl, own_base hs.own (by omega), hs.len, fun x hx => (hs.deps x hx).more fun j _ hj => by omega, hs.str, hb1.trans (hs.bel.mono (by omega))⟩
end
end Go.Proofs.Ytfocjcdfpnbkjaa
