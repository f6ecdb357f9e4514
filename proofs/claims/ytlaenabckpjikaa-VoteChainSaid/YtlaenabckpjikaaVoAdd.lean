/- Layer 18: Clone, Add, Form. (Written by wip/gen_voadd.py.) -/
import Derived.Test.YtlaenabckpjikaaVoPend
import Derived.Test.YtlaenabckpjikaaVoChain
import Derived.Laws.Tables
import Derived.Lib.SliceRun
set_option linter.unusedVariables false
set_option maxRecDepth 100000
set_option linter.unusedSimpArgs false
namespace Go.Proofs.Ytlaenabckpjikaa
open Go.RowKit Go.Sort Go.Maps

/-- slices.Clone of views: a row of the call's own. -/
theorem vclone_nil (c : Nat) (w : World) : Calls Try.prog 29 #[.slice none 0 c] w fun e w' => e = .returned (.slice none 0 0) ∧ w = w' := by
  have q : ∀ (w : World) (a : Option Addr) (n c n' c' : Nat), (binOp .eql 32 (.slice a n c) (.slice none n' c')).run Try.prog w = .ok (.bool a.isNone) w := fun w a n c n' c' => Lib.run_eql_slice_nil w _ _ a n c n' c' Try.underlying32
  go_enter Try.func29, Try.ntmps29
  go_wp2
  go_ret
  exact ⟨rfl, rfl⟩
theorem vclone_some (ad : Addr) (n c : Nat) (L : List Vw) (w : World) (hn : n ≤ 100000) (hc : Lst encV 4 w (some ad) n L) :
    Calls Try.prog 29 #[.slice (some ad) n c] w fun e w' => ∃ a' c', e = .returned (.slice a' n c') ∧ w'.ownsRow w.heap.size 31 4 (.slice a' n c') n (flat encV L) ∧ Below w.heap.size w w' := by
  have q : ∀ (w : World) (a : Option Addr) (n c n' c' : Nat), (binOp .eql 32 (.slice a n c) (.slice none n' c')).run Try.prog w = .ok (.bool a.isNone) w := fun w a n c n' c' => Lib.run_eql_slice_nil w _ _ a n c n' c' Try.underlying32
  have HC := Lib.hid hc
  have hb := (Below.refl w.heap.size w).alloc (Nat.le_refl _) (.cells #[] 31)
  have HB := Lib.hid hb
  have HC2 := Lib.hid (hc.below hb)
  clear hc hb
  go_enter Try.func29, Try.ntmps29
  go_wp2_with (at_builtin; refine append_vw _ rfl (.tmp 5) (.tmp 6) rfl w.heap.size (.slice (some ⟨w.heap.size, 0, none⟩) 0 0) 0 [] rfl (World.ownsRow_made w #[] 0 (Nat.le_refl _) (Nat.zero_le _) (by simp)) (some ad) n c L rfl (fun h => by cases h) HC2.out (by omega) HB.out.size ?_; intro v9 w9 h1 h2)
  have h1 := own_eq (n' := n) (xs' := flat encV L) h1 (by omega) (List.nil_append _)
  have HB9 := Lib.hid (HB.out.grown h2 HB.out.size (fun k hk => by simp [Value.ownBlock] at hk; omega))
  obtain ⟨a9, c9, rfl⟩ := own_form' h1
  have H1 := Lib.hid h1
  clear h1 h2
  go_wp2
  go_ret
  first
    | exact ⟨a9, c9, rfl, H1.out, HB9.out⟩
    | exact ⟨a9, ⟨c9, rfl⟩, H1.out, HB9.out⟩
theorem vclone (a : Option Addr) (n c : Nat) (L : List Vw) (w : World) (hn : n ≤ 100000) (hc : Lst encV 4 w a n L) :
    Calls Try.prog 29 #[.slice a n c] w fun e w' => ∃ a' c', e = .returned (.slice a' n c') ∧ w'.ownsRow w.heap.size 31 4 (.slice a' n c') n (flat encV L) ∧ Below w.heap.size w w' := by
  cases a with
  | some ad => exact vclone_some ad n c L w hn hc
  | none =>
    have h0 : n = 0 := by
      rcases Nat.eq_zero_or_pos n with e | e
      · exact e
      · obtain ⟨_, _, e', _⟩ := hc.src e; cases e'
    subst h0
    have hl := hc.size
    have : L = [] := List.eq_nil_of_length_eq_zero hl
    subst this
    refine (vclone_nil c w).mono ?_
    rintro e w' ⟨rfl, rfl⟩
    exact ⟨none, 0, rfl, World.ownsRow_nil _ _ _ _, Below.refl _ _⟩
theorem wp_store_rc18 {o : Oper} {a : Act} {w : World} {K : Act → World → Prop} {Q : Exit → Act → World → Prop} (x y : Operand) (ho : o.op = .store 34 x y)
    (g : Nat) (v : Rc) (hx : a.eval x = .pointer (some ⟨g, 0, none⟩)) (hy : a.eval y = .agg #[.int .u64 (v.p.last.n : Int), .int .u64 (v.p.last.e : Int), .int .i64 v.p.last.r, .int .u64 (v.p.last.m : Int), .slice v.a v.k v.c]) {v0 : Rc} (hg : RcB w g v0) (hd : o.dst = none)
    (h : K (a.put none undef) (w.setRow g (encRc v).toArray)) : o.wp Try.prog a w K Q := by
  rw [← hd] at h
  exact wp_store_row 34 x y ho g _ hx hy 34 _ hg rc_size rfl (by simp [Value.oneCell']) h
/-- Amid Add, behind the copy. -/
structure AdSt (w wx : World) (rb vb zb ob : Nat) (x : Rc) (v : Vw) (a' : Option Addr) (c' : Nat) : Prop where
  box : RcB wx rb x
  vw : VwB wx vb v
  res : RcB wx zb ⟨⟨zeroV, []⟩, none, 0, 0⟩
  out : RcB wx ob ⟨x.p, a', x.k, c'⟩
  own : wx.ownsRow w.heap.size 31 4 (.slice a' x.k c') x.k (flat encV x.p.pend)
  bel : Below w.heap.size w wx
theorem own_nrec {w : World} {base n k g : Nat} {v : Value} {xs : List Value} {x : Rc} (h : w.ownsRow base 31 k v n xs) (hg : RcB w g x) : some g ≠ v.ownBlock := by
  intro e
  rcases h.2 with ⟨rfl, _⟩ | ⟨g', c, cur, rfl, _, h3, _⟩
  · simp [Value.ownBlock] at e
  · simp [Value.ownBlock] at e
    subst e
    have := (Own.is hg).symm.trans h3
    injection this with e1
    injection e1 with _ e2 _
    exact absurd e2 (by decide)
theorem own_keep18 {w w' : World} {base n k : Nat} {t : TypeId} {v : Value} {xs : List Value} (h : w.ownsRow base t k v n xs) (hb : ∀ g, v.ownBlock = some g → w'.heap[g]? = w.heap[g]?) : w'.ownsRow base t k v n xs := by
  refine ⟨h.1, ?_⟩
  rcases h.2 with h1 | ⟨g, cap, cur, h1, h2, h3, h4⟩
  · exact .inl h1
  · exact .inr ⟨g, cap, cur, h1, h2, (hb g (by rw [h1]; rfl)).trans h3, h4⟩
theorem AdSt.later {w wx w' : World} {rb vb zb ob : Nat} {x : Rc} {v : Vw} {a' : Option Addr} {c' : Nat} (h : AdSt w wx rb vb zb ob x v a' c') (hb : Below wx.heap.size wx w') : AdSt w w' rb vb zb ob x v a' c' :=
  ⟨h.box.later hb, h.vw.later hb, h.res.later hb, h.out.later hb, own_below18 h.own hb, h.bel.trans (hb.mono h.bel.size)⟩
theorem setRow_own {w : World} {g b : Nat} {t : TypeId} {cs : Array Value} (h : Own w g t cs) (rs : Array Value) (hne : g ≠ b) : Own (w.setRow b rs) g t cs := (setRow_other _ _ _ _ hne).trans h
theorem own_typ18 {w : World} {base n k : Nat} {t : TypeId} {v : Value} {xs : List Value} (h : w.ownsRow base t k v n xs) (j : Nat) (hj : v.ownBlock = some j) : base ≤ j ∧ ∃ cur, w.heap[j]? = some (.cells cur t (0, 0)) := by
  rcases h.2 with ⟨rfl, _⟩ | ⟨g, c, cur, rfl, h1, h3, _⟩
  · simp [Value.ownBlock] at hj
  · simp [Value.ownBlock] at hj
    subst hj
    exact ⟨h1, cur, h3⟩
set_option maxHeartbeats 4000000 in
theorem vaddN {w : World} (x : Rc) (v : Vw) (hx : RcIn w x) (hv : v.ok) (hk : x.k ≤ 99999) :
    Calls Try.prog 23 #[valRc x, valV v] w fun e w' => ∃ y, e = .returned (.tuple #[valRc y, .bool (decide (x.k < 32))]) ∧ y.p = addR x.p v ∧ RcIn w' y ∧ y.k ≤ x.k + 1 ∧ Below w.heap.size w w' ∧ ∀ ad, y.a = some ad → w.heap.size ≤ ad.block ∧ ad.block < w'.heap.size := by
  have HV := Lib.hid hv
  have HX := Lib.hid hx
  have HLEN := Lib.hid hx.len
  obtain ⟨⟨⟨vn, ve, vr, vm⟩, L⟩, a, k, c⟩ := x
  obtain ⟨un, ue, ur, um⟩ := v
  simp only at hk
  clear hx hv
  have L1 := ((Grw.refl w).alloc (.cells #[.int .u64 vn, .int .u64 ve, .int .i64 vr, .int .u64 vm, .slice a k c] 34)).below
  have R1 : RcB (w.alloc (.cells #[.int .u64 vn, .int .u64 ve, .int .i64 vr, .int .u64 vm, .slice a k c] 34)) w.heap.size ⟨⟨⟨vn, ve, vr, vm⟩, L⟩, a, k, c⟩ := RcB.new w ⟨⟨⟨vn, ve, vr, vm⟩, L⟩, a, k, c⟩
  have s1 : (w.alloc (.cells #[.int .u64 vn, .int .u64 ve, .int .i64 vr, .int .u64 vm, .slice a k c] 34)).heap.size = w.heap.size + 1 := by simp
  have HS1 : Hid (w.heap.size + 1 ≤ w.heap.size + 1) := Lib.hid (Nat.le_refl _)
  generalize hw1 : w.alloc (.cells #[.int .u64 vn, .int .u64 ve, .int .i64 vr, .int .u64 vm, .slice a k c] 34) = w1 at *
  have L2 := ((Grw.refl w1).alloc (.cells #[.int .u64 un, .int .u64 ue, .int .i64 ur, .int .u64 um] 31)).below
  have V2 : VwB (w1.alloc (.cells #[.int .u64 un, .int .u64 ue, .int .i64 ur, .int .u64 um] 31)) w1.heap.size ⟨un, ue, ur, um⟩ := VwB.new w1 ⟨un, ue, ur, um⟩
  have s2 : (w1.alloc (.cells #[.int .u64 un, .int .u64 ue, .int .i64 ur, .int .u64 um] 31)).heap.size = w.heap.size + 1 + 1 := by rw [← s1]; simp
  generalize hw2 : w1.alloc (.cells #[.int .u64 un, .int .u64 ue, .int .i64 ur, .int .u64 um] 31) = w2 at *
  have L3 := ((Grw.refl w2).alloc (.cells #[.int .u64 0, .int .u64 0, .int .i64 0, .int .u64 0, .slice none 0 0] 34)).below
  have Z3 := RcB.zero w2
  have s3 : (w2.alloc (.cells #[.int .u64 0, .int .u64 0, .int .i64 0, .int .u64 0, .slice none 0 0] 34)).heap.size = w.heap.size + 1 + 1 + 1 := by rw [← s2]; simp
  have R3 := Lib.hid ((R1.later L2).later L3)
  have V3 := Lib.hid (V2.later L3)
  have HZ3 := Lib.hid Z3
  have B3 := Lib.hid ((L1.trans (L2.mono L1.size)).trans (L3.mono (Nat.le_trans L1.size L2.size)))
  have PC : Hid (∀ w', Below w.heap.size w w' → Lst encV 4 w' a k L) := Lib.hid fun w' hb => HX.out.pend.at_.below hb
  rw [s1] at V3
  rw [s2] at HZ3
  subst hw2
  subst hw1
  clear L1 L2 L3 R1 V2 Z3 s1 s2 s3 HS1
  show Calls Try.prog 23 #[.agg #[.int .u64 vn, .int .u64 ve, .int .i64 vr, .int .u64 vm, .slice a k c], .agg #[.int .u64 un, .int .u64 ue, .int .i64 ur, .int .u64 um]] w _
  go_enter Try.func23, Try.ntmps23
  go_upto_region 1 with fail
  generalize (((w.alloc (.cells #[.int .u64 vn, .int .u64 ve, .int .i64 vr, .int .u64 vm, .slice a k c] 34)).alloc (.cells #[.int .u64 un, .int .u64 ue, .int .i64 ur, .int .u64 um] 31)).alloc (.cells #[.int .u64 0, .int .u64 0, .int .i64 0, .int .u64 0, .slice none 0 0] 34)) = w3 at *
  go_cut [6] from 6 to 12 (fun s6 wx => ∃ (ob : Nat) (a' : Option Addr) (c' : Nat), s6 = .pointer (some ⟨ob, 0, none⟩) ∧ AdSt w wx w.heap.size (w.heap.size + 1) (w.heap.size + 1 + 1) ob ⟨⟨⟨vn, ve, vr, vm⟩, L⟩, a, k, c⟩ ⟨un, ue, ur, um⟩ a' c' ∧ w.heap.size + 3 ≤ ob)
  case first =>
    have R4 : RcB w3.drew w.heap.size ⟨⟨⟨vn, ve, vr, vm⟩, L⟩, a, k, c⟩ := R3.out
    have V4 : VwB w3.drew (w.heap.size + 1) ⟨un, ue, ur, um⟩ := V3.out
    have Z4 : RcB w3.drew (w.heap.size + 1 + 1) ⟨⟨zeroV, []⟩, none, 0, 0⟩ := HZ3.out
    have B4 : Below w.heap.size w w3.drew := B3.out.trans (Below.mono (Grw.refl w3).drew.below B3.out.size)
    have hz3 : (w.heap.size + 1 + 1) < w3.drew.heap.size := RcB.lt Z4
    refine wp_region_held_drew (S := fun w' => RcB w' w.heap.size ⟨⟨⟨vn, ve, vr, vm⟩, L⟩, a, k, c⟩) (by kernel_rfl) R4 (fun hHeld => ?_)
    clear R3 V3 HZ3 B3
    generalize w3.drew = w4 at *
    refine vtake (i := 0) (v := (.pointer (some ⟨w.heap.size, 0, none⟩))) 7 rfl (by kernel_rfl) (by kernel_rfl) (by kernel_rfl) (by kernel_rfl) (fun _ _ _ h => h) (.inl ⟨by kernel_rfl, fun w' hS => by (go_simp)⟩) hHeld ?_
    (try simp only [Act.put, List.setIfInBounds_toArray, List.set_cons_zero, List.set_cons_succ])
    refine vtake (i := 1) (v := (.agg #[.int .u64 vn, .int .u64 ve, .int .i64 vr, .int .u64 vm])) 8 rfl (by kernel_rfl) (by kernel_rfl) (by kernel_rfl) (by kernel_rfl) (fun _ _ _ h => h) (.inl ⟨by kernel_rfl, fun w' hS => by (have q := RcB.own hS; have d0 := q.at_ 0 _ rfl; have d1 := q.at_ 1 _ rfl; have d2 := q.at_ 2 _ rfl; have d3 := q.at_ 3 _ rfl; go_simp)⟩) hHeld ?_
    (try simp only [Act.put, List.setIfInBounds_toArray, List.set_cons_zero, List.set_cons_succ])
    refine vtake (i := 2) (v := (.pointer (some ⟨w.heap.size, 4, none⟩))) 9 rfl (by kernel_rfl) (by kernel_rfl) (by kernel_rfl) (by kernel_rfl) (fun _ _ _ h => h) (.inl ⟨by kernel_rfl, fun w' hS => by (go_simp)⟩) hHeld ?_
    (try simp only [Act.put, List.setIfInBounds_toArray, List.set_cons_zero, List.set_cons_succ])
    refine vtake (i := 3) (v := (.slice a k c)) 10 rfl (by kernel_rfl) (by kernel_rfl) (by kernel_rfl) (by kernel_rfl) (fun _ _ _ h => h) (.inl ⟨by kernel_rfl, fun w' hS => by (have q := RcB.own hS; have d4 := q.at_ 4 _ rfl; go_simp)⟩) hHeld ?_
    (try simp only [Act.put, List.setIfInBounds_toArray, List.set_cons_zero, List.set_cons_succ])
    refine wpAnyH_ready (rs := [4, 6]) (by kernel_rfl) (by simp) (AllReadyH.cons rfl (fun K hK => ?_) (AllReadyH.cons rfl (fun K hK => ?_) AllReadyH.nil))
    · clear hHeld
      have P := vclone a k c L w4 (by omega) (PC.out _ (by assumption))
      rw [if_pos (by kernel_rfl)]
      go_simp
      refine P.mono ?_
      rintro e w5 ⟨a', c', rfl, O, L5⟩
      clear P
      have O5 : w5.ownsRow w.heap.size 31 4 (.slice a' k c') k (flat encV L) := own_base O B4.size
      have R5 := R4.later L5
      have V5 := V4.later L5
      have Z5 := Z4.later L5
      have B5 := B4.trans (L5.mono B4.size)
      have hz5 := L5.size
      refine hK.out _ _ R5 (fun hHeld => ?_)
      clear hK K O R4 V4 Z4 B4 L5
      (try simp only [Act.put, List.setIfInBounds_toArray, List.set_cons_zero, List.set_cons_succ])
      refine vtake (i := 5) (v := (.agg #[.int .u64 vn, .int .u64 ve, .int .i64 vr, .int .u64 vm, .slice a' k c'])) 12 rfl (by kernel_rfl) (by kernel_rfl) (by kernel_rfl) (by kernel_rfl) (fun _ _ _ h => h) (.inl ⟨by kernel_rfl, fun w' hS => by (go_simp)⟩) hHeld ?_
      (try simp only [Act.put, List.setIfInBounds_toArray, List.set_cons_zero, List.set_cons_succ])
      clear hHeld
      refine wpAnyH_ready (rs := [6]) (by kernel_rfl) (by simp) (AllReadyH.cons rfl (fun K hK => ?_) AllReadyH.nil)
      rw [if_pos (by kernel_rfl)]
      go_simp
      have L6 := ((Grw.refl w5).alloc (.cells #[.int .u64 0, .int .u64 0, .int .i64 0, .int .u64 0, .slice none 0 0] 34)).below
      have N6 := RcB.zero w5
      have R6 := R5.later L6
      have V6 := V5.later L6
      have Z6 := Z5.later L6
      have O6 := own_below18 O5 L6
      have B6 := B5.trans (L6.mono B5.size)
      have hob : w.heap.size + 3 ≤ w5.heap.size := by omega
      clear R5 V5 Z5 O5 B5 L6
      generalize w5.alloc (.cells #[.int .u64 0, .int .u64 0, .int .i64 0, .int .u64 0, .slice none 0 0] 34) = w6 at *
      generalize w5.heap.size = ob at *
      refine hK.out _ _ R6 (fun hHeld => ?_)
      clear hK K hHeld
      (try simp only [Act.put, List.setIfInBounds_toArray, List.set_cons_zero, List.set_cons_succ])
      refine wpAnyH_ready (rs := [7]) (by kernel_rfl) (by simp) (AllReadyH.cons rfl (fun K hK => ?_) AllReadyH.nil)
      rw [if_pos (by kernel_rfl)]
      refine wp_store_rc18 (.tmp 6) (.tmp 12) rfl ob ⟨⟨⟨vn, ve, vr, vm⟩, L⟩, a', k, c'⟩ rfl rfl N6 rfl ?_
      have R7 : RcB (w6.setRow ob (encRc ⟨⟨⟨vn, ve, vr, vm⟩, L⟩, a', k, c'⟩).toArray) w.heap.size ⟨⟨⟨vn, ve, vr, vm⟩, L⟩, a, k, c⟩ := setRow_own R6 _ (by omega)
      have F7 : AdSt w (w6.setRow ob (encRc ⟨⟨⟨vn, ve, vr, vm⟩, L⟩, a', k, c'⟩).toArray) w.heap.size (w.heap.size + 1) (w.heap.size + 1 + 1) ob ⟨⟨⟨vn, ve, vr, vm⟩, L⟩, a, k, c⟩ ⟨un, ue, ur, um⟩ a' c' :=
        ⟨R7, setRow_own V6 _ (by omega), setRow_own Z6 _ (by omega), N6.row _, own_keep18 O6 (fun g hg => setRow_other _ _ _ _ (fun e => own_nrec O6 N6 (by rw [hg, e]))), belowRow18 B6 ob (by omega) _⟩
      refine hK.out _ _ R7 (fun hHeld => ?_)
      clear hK K hHeld R7 R6 V6 Z6 N6 O6 B6
      (try simp only [Act.put, List.setIfInBounds_toArray, List.set_cons_zero, List.set_cons_succ])
      refine wpAnyH_done (by kernel_rfl) ?_ _
      have F7 := Lib.hid F7
      go_wp2_with fail
      go_meet
      exact ⟨ob, a', c', rfl, F7.out, hob⟩
    · clear hHeld
      rw [if_pos (by kernel_rfl)]
      go_simp
      have L6 := ((Grw.refl w4).alloc (.cells #[.int .u64 0, .int .u64 0, .int .i64 0, .int .u64 0, .slice none 0 0] 34)).below
      have N6 := RcB.zero w4
      have R5 := R4.later L6
      have V5 := V4.later L6
      have Z5 := Z4.later L6
      have B5 := B4.trans (L6.mono B4.size)
      have hob : w.heap.size + 3 ≤ w4.heap.size := by omega
      clear R4 V4 Z4 B4 L6
      generalize w4.alloc (.cells #[.int .u64 0, .int .u64 0, .int .i64 0, .int .u64 0, .slice none 0 0] 34) = w5 at *
      generalize w4.heap.size = ob at *
      refine hK.out _ _ R5 (fun hHeld => ?_)
      clear hK K hHeld
      (try simp only [Act.put, List.setIfInBounds_toArray, List.set_cons_zero, List.set_cons_succ])
      refine wpAnyH_ready (rs := [4]) (by kernel_rfl) (by simp) (AllReadyH.cons rfl (fun K hK => ?_) AllReadyH.nil)
      have P := vclone a k c L w5 (by omega) (PC.out _ (by assumption))
      rw [if_pos (by kernel_rfl)]
      go_simp
      refine P.mono ?_
      rintro e w6 ⟨a', c', rfl, O, L5⟩
      clear P
      have O6 : w6.ownsRow w.heap.size 31 4 (.slice a' k c') k (flat encV L) := own_base O B5.size
      have R6 := R5.later L5
      have V6 := V5.later L5
      have Z6 := Z5.later L5
      have N6 := N6.later L5
      have B6 := B5.trans (L5.mono B5.size)
      refine hK.out _ _ R6 (fun hHeld => ?_)
      clear hK K O R5 V5 Z5 B5 L5
      (try simp only [Act.put, List.setIfInBounds_toArray, List.set_cons_zero, List.set_cons_succ])
      refine vtake (i := 5) (v := (.agg #[.int .u64 vn, .int .u64 ve, .int .i64 vr, .int .u64 vm, .slice a' k c'])) 12 rfl (by kernel_rfl) (by kernel_rfl) (by kernel_rfl) (by kernel_rfl) (fun _ _ _ h => h) (.inl ⟨by kernel_rfl, fun w' hS => by (go_simp)⟩) hHeld ?_
      (try simp only [Act.put, List.setIfInBounds_toArray, List.set_cons_zero, List.set_cons_succ])
      clear hHeld
      refine wpAnyH_ready (rs := [7]) (by kernel_rfl) (by simp) (AllReadyH.cons rfl (fun K hK => ?_) AllReadyH.nil)
      rw [if_pos (by kernel_rfl)]
      refine wp_store_rc18 (.tmp 6) (.tmp 12) rfl ob ⟨⟨⟨vn, ve, vr, vm⟩, L⟩, a', k, c'⟩ rfl rfl N6 rfl ?_
      have R7 : RcB (w6.setRow ob (encRc ⟨⟨⟨vn, ve, vr, vm⟩, L⟩, a', k, c'⟩).toArray) w.heap.size ⟨⟨⟨vn, ve, vr, vm⟩, L⟩, a, k, c⟩ := setRow_own R6 _ (by omega)
      have F7 : AdSt w (w6.setRow ob (encRc ⟨⟨⟨vn, ve, vr, vm⟩, L⟩, a', k, c'⟩).toArray) w.heap.size (w.heap.size + 1) (w.heap.size + 1 + 1) ob ⟨⟨⟨vn, ve, vr, vm⟩, L⟩, a, k, c⟩ ⟨un, ue, ur, um⟩ a' c' :=
        ⟨R7, setRow_own V6 _ (by omega), setRow_own Z6 _ (by omega), N6.row _, own_keep18 O6 (fun g hg => setRow_other _ _ _ _ (fun e => own_nrec O6 N6 (by rw [hg, e]))), belowRow18 B6 ob (by omega) _⟩
      refine hK.out _ _ R7 (fun hHeld => ?_)
      clear hK K hHeld R7 R6 V6 Z6 N6 O6 B6
      (try simp only [Act.put, List.setIfInBounds_toArray, List.set_cons_zero, List.set_cons_succ])
      refine wpAnyH_done (by kernel_rfl) ?_ _
      have F7 := Lib.hid F7
      go_wp2_with fail
      go_meet
      exact ⟨ob, a', c', rfl, F7.out, hob⟩
  case rest =>
    obtain ⟨ob, a', c', rfl, hst, hob⟩ := hcut
    have HST := Lib.hid hst
    clear hst R3 V3 HZ3 B3
    have d4 : wc.cell? ⟨w.heap.size, 4, none⟩ = some (.slice a k c) := HST.out.box.own.at_ 4 _ rfl
    by_cases hge : 32 ≤ k
    · have hlt : ¬k < 32 := by omega
      have HD := Lib.hid (show decide (k < 32) = false by simpa using hge)
      have HA := Lib.hid (show addR ⟨⟨vn, ve, vr, vm⟩, L⟩ ⟨un, ue, ur, um⟩ = ⟨⟨vn, ve, vr, vm⟩, L⟩ by
        unfold addR
        exact if_pos (by have := HLEN.out; simp only at this; simp only; omega))
      have B9 := Lib.hid (belowRow18 HST.out.bel (w.heap.size + 1 + 1) (by omega) (encRc ⟨⟨⟨vn, ve, vr, vm⟩, L⟩, a', k, c'⟩).toArray)
      have Z9 := Lib.hid (HST.out.res.row ⟨⟨⟨vn, ve, vr, vm⟩, L⟩, a', k, c'⟩)
      have O9 := Lib.hid (own_keep18 HST.out.own (w' := wc.setRow (w.heap.size + 1 + 1) (encRc ⟨⟨⟨vn, ve, vr, vm⟩, L⟩, a', k, c'⟩).toArray) (fun g hg => setRow_other _ _ _ _ (fun e => own_nrec HST.out.own HST.out.res (by rw [hg, e]))))
      go_wp2_with (first | (refine load_rc rfl (.tmp 6) rfl ob rfl HST.out.out ?_) | (refine store_rc rfl (.tmp 4) (.tmp 17) rfl (w.heap.size + 1 + 1) ⟨⟨⟨vn, ve, vr, vm⟩, L⟩, a', k, c'⟩ rfl rfl HST.out.res ?_))
      (try simp only [Exit.inBlock, Exit.then])
      exact bodyPost_ret (results_rcb rfl _ _ (w.heap.size + 1 + 1) rfl Z9.out) rfl ⟨⟨⟨⟨vn, ve, vr, vm⟩, L⟩, a', k, c'⟩, rfl, HA.out.symm, ⟨own_vws O9.out HLEN.out HX.out.pend.ok, HX.out.last, own_nil18 O9.out⟩, Nat.le_succ _, B9.out, fun ad e => own_at18 O9.out ad.block (by simp only at e; rw [e]; rfl)⟩
    · have hlt : k < 32 := by omega
      have HA := Lib.hid (show addR ⟨⟨vn, ve, vr, vm⟩, L⟩ ⟨un, ue, ur, um⟩ = ⟨⟨vn, ve, vr, vm⟩, L ++ [⟨un, ue, ur, um⟩]⟩ by
        unfold addR
        exact if_neg (by have := HLEN.out; simp only at this; simp only; omega))
      have e4 : wc.cell? ⟨ob, 4, none⟩ = some (.slice a' k c') := HST.out.out.own.at_ 4 _ rfl
      have g0 : wc.cell? ⟨w.heap.size + 1, 0, none⟩ = some (.int .u64 un) := HST.out.vw.own.at_ 0 _ rfl
      have g1 : wc.cell? ⟨w.heap.size + 1, 1, none⟩ = some (.int .u64 ue) := HST.out.vw.own.at_ 1 _ rfl
      have g2 : wc.cell? ⟨w.heap.size + 1, 2, none⟩ = some (.int .i64 ur) := HST.out.vw.own.at_ 2 _ rfl
      have g3 : wc.cell? ⟨w.heap.size + 1, 3, none⟩ = some (.int .u64 um) := HST.out.vw.own.at_ 3 _ rfl
      have L5 := ((Grw.refl wc).alloc (.cells #[.int .u64 un, .int .u64 ue, .int .i64 ur, .int .u64 um] 31)).below
      have H5 := Lib.hid (HST.out.later L5)
      have N5 := Lib.hid (vw_lst (VwB.new wc ⟨un, ue, ur, um⟩))
      have hb5 := H5.out.bel.size
      clear L5
      go_upto_region 5 with (at_builtin; refine append_vw _ rfl (.tmp 19) (.tmp 21) rfl w.heap.size (.slice a' k c') k _ rfl H5.out.own (some ⟨wc.heap.size, 0, none⟩) 1 1 _ rfl (fun h => by cases h) N5.out (by omega) hb5 ?_; intro v6 w6 h1 h2; obtain ⟨a6, c6, rfl⟩ := own_form' h1; (have o6 : RcB w6 ob ⟨⟨⟨vn, ve, vr, vm⟩, L⟩, a', k, c'⟩ := Own.grown H5.out.out h2 (own_nrec H5.out.own H5.out.out)); (have k6 := o6.own.at_ 4 _ rfl); (have f6 := o6.own.free 4); (have Z6 := Lib.hid (show RcB w6 (w.heap.size + 1 + 1) ⟨⟨zeroV, []⟩, none, 0, 0⟩ from Own.grown H5.out.res h2 (own_nrec H5.out.own H5.out.res))); (have B6 := Lib.hid (grown_below H5.out.bel (Nat.le_refl _) H5.out.own h2)); (have O6 := Lib.hid h1); (have o6 := Lib.hid o6); clear h1 h2)
      have O7 := own_eq O6.out rfl (show _ = flat encV (L ++ [(⟨un, ue, ur, um⟩ : Vw)]) from (flat_append _ _ _).symm)
      have P7 : Hid (RcB (w6.setCell ⟨ob, 4, none⟩ (.slice a6 (k + 1) c6)) ob ⟨⟨⟨vn, ve, vr, vm⟩, L ++ [⟨un, ue, ur, um⟩]⟩, a6, k + 1, c6⟩) := Lib.hid (Own.set o6.out 4 _)
      have Z7 := Lib.hid (show RcB (w6.setCell ⟨ob, 4, none⟩ (.slice a6 (k + 1) c6)) (w.heap.size + 1 + 1) ⟨⟨zeroV, []⟩, none, 0, 0⟩ from Own.set_other Z6.out ob 4 _ (by omega))
      have B7 := Lib.hid (show Below w.heap.size w (w6.setCell ⟨ob, 4, none⟩ (.slice a6 (k + 1) c6)) from B6.out.setCell (by show w.heap.size ≤ ob; omega) _)
      have Q7 : Hid ((w6.setCell ⟨ob, 4, none⟩ (.slice a6 (k + 1) c6)).ownsRow w.heap.size 31 4 (.slice a6 (k + 1) c6) (k + 1) (flat encV (L ++ [(⟨un, ue, ur, um⟩ : Vw)]))) := Lib.hid (own_keep18 O7 (fun g hg => heap_setCell_other w6 ⟨ob, 4, none⟩ g _ (fun e => own_nrec O7 o6.out (by rw [hg, e]))))
      clear O7 O6 o6 Z6 B6 k6 f6 e4 g0 g1 g2 g3 d4 H5 N5 HST
      generalize w6.setCell ⟨ob, 4, none⟩ (.slice a6 (k + 1) c6) = w7 at *
      have B9 := Lib.hid (belowRow18 B7.out (w.heap.size + 1 + 1) (by omega) (encRc ⟨⟨⟨vn, ve, vr, vm⟩, L ++ [⟨un, ue, ur, um⟩]⟩, a6, k + 1, c6⟩).toArray)
      have Z9 := Lib.hid (Z7.out.row ⟨⟨⟨vn, ve, vr, vm⟩, L ++ [⟨un, ue, ur, um⟩]⟩, a6, k + 1, c6⟩)
      have O9 := Lib.hid (own_keep18 Q7.out (w' := w7.setRow (w.heap.size + 1 + 1) (encRc ⟨⟨⟨vn, ve, vr, vm⟩, L ++ [⟨un, ue, ur, um⟩]⟩, a6, k + 1, c6⟩).toArray) (fun g hg => setRow_other _ _ _ _ (fun e => own_nrec Q7.out Z7.out (by rw [hg, e]))))
      go_wp2_with (first | (refine load_rc rfl (.tmp 6) rfl ob rfl P7.out ?_) | (refine store_rc rfl (.tmp 4) (.tmp 24) rfl (w.heap.size + 1 + 1) ⟨⟨⟨vn, ve, vr, vm⟩, L ++ [⟨un, ue, ur, um⟩]⟩, a6, k + 1, c6⟩ rfl rfl Z7.out ?_))
      (try simp only [Exit.inBlock, Exit.then])
      exact bodyPost_ret (results_rcb rfl _ _ (w.heap.size + 1 + 1) rfl Z9.out) rfl ⟨⟨⟨⟨vn, ve, vr, vm⟩, L ++ [⟨un, ue, ur, um⟩]⟩, a6, k + 1, c6⟩, rfl, HA.out.symm, ⟨own_vws O9.out (by rw [List.length_append]; have : L.length = k := HLEN.out; show L.length + 1 = k + 1; omega) (fun v hv => by
        rcases List.mem_append.1 hv with hv | hv
        · exact HX.out.pend.ok v hv
        · rw [List.mem_singleton.1 hv]; exact HV.out), HX.out.last, own_nil18 O9.out⟩, Nat.le_refl _, B9.out, fun ad e => own_at18 O9.out ad.block (by simp only at e; rw [e]; rfl)⟩
set_option maxHeartbeats 4000000 in
theorem vadd {w : World} (x : Rc) (v : Vw) (hx : RcIn w x) (hv : v.ok) (hk : x.k ≤ 99999) :
    Calls Try.prog 23 #[valRc x, valV v] w fun e w' => ∃ y, e = .returned (.tuple #[valRc y, .bool (decide (x.k < 32))]) ∧ y.p = addR x.p v ∧ RcIn w' y ∧ y.k ≤ x.k + 1 ∧ Below w.heap.size w w' :=
  (vaddN x v hx hv hk).mono fun e w' ⟨y, h1, h2, h3, h4, h5, _⟩ => ⟨y, h1, h2, h3, h4, h5⟩
set_option maxHeartbeats 4000000 in
theorem vformN {w : World} (x : Rc) (v : Vw) (hx : RcIn w x) (hv : v.ok) (hk : x.k ≤ 99999) :
    Calls Try.prog 24 #[valRc x, valV v] w fun e w' => ∃ y, e = .returned (valRc y) ∧ y.p = formR x.p v ∧ RcIn w' y ∧ y.k ≤ x.k ∧ Below w.heap.size w w' ∧ ∀ ad, y.a = some ad → w.heap.size ≤ ad.block ∧ ad.block < w'.heap.size := by
  have HV := Lib.hid hv
  have HX := Lib.hid hx
  have HLEN := Lib.hid hx.len
  obtain ⟨⟨⟨vn, ve, vr, vm⟩, L⟩, a, k, c⟩ := x
  obtain ⟨un, ue, ur, um⟩ := v
  have hun := hv.n
  simp only at hk hun
  clear hx hv
  have L1 := ((Grw.refl w).alloc (.cells #[.int .u64 vn, .int .u64 ve, .int .i64 vr, .int .u64 vm, .slice a k c] 34)).below
  have R1 : RcB (w.alloc (.cells #[.int .u64 vn, .int .u64 ve, .int .i64 vr, .int .u64 vm, .slice a k c] 34)) w.heap.size ⟨⟨⟨vn, ve, vr, vm⟩, L⟩, a, k, c⟩ := RcB.new w ⟨⟨⟨vn, ve, vr, vm⟩, L⟩, a, k, c⟩
  have s1 : (w.alloc (.cells #[.int .u64 vn, .int .u64 ve, .int .i64 vr, .int .u64 vm, .slice a k c] 34)).heap.size = w.heap.size + 1 := by simp
  generalize hw1 : w.alloc (.cells #[.int .u64 vn, .int .u64 ve, .int .i64 vr, .int .u64 vm, .slice a k c] 34) = w1 at *
  have L2 := ((Grw.refl w1).alloc (.cells #[.int .u64 un, .int .u64 ue, .int .i64 ur, .int .u64 um] 31)).below
  have V2 : VwB (w1.alloc (.cells #[.int .u64 un, .int .u64 ue, .int .i64 ur, .int .u64 um] 31)) w1.heap.size ⟨un, ue, ur, um⟩ := VwB.new w1 ⟨un, ue, ur, um⟩
  have s2 : (w1.alloc (.cells #[.int .u64 un, .int .u64 ue, .int .i64 ur, .int .u64 um] 31)).heap.size = w.heap.size + 1 + 1 := by rw [← s1]; simp
  generalize hw2 : w1.alloc (.cells #[.int .u64 un, .int .u64 ue, .int .i64 ur, .int .u64 um] 31) = w2 at *
  have L3 := ((Grw.refl w2).alloc (.cells #[.int .u64 0, .int .u64 0, .int .i64 0, .int .u64 0, .slice none 0 0] 34)).below
  have Z3 := RcB.zero w2
  have R3 := Lib.hid ((R1.later L2).later L3)
  have V3 := Lib.hid (V2.later L3)
  have HZ3 := Lib.hid Z3
  have B3 := Lib.hid ((L1.trans (L2.mono L1.size)).trans (L3.mono (Nat.le_trans L1.size L2.size)))
  rw [s1] at V3
  rw [s2] at HZ3
  subst hw2
  subst hw1
  clear L1 L2 L3 R1 V2 Z3 s1 s2
  show Calls Try.prog 24 #[.agg #[.int .u64 vn, .int .u64 ve, .int .i64 vr, .int .u64 vm, .slice a k c], .agg #[.int .u64 un, .int .u64 ue, .int .i64 ur, .int .u64 um]] w _
  go_enter Try.func24, Try.ntmps24
  go_upto_region 1 with fail
  generalize (((w.alloc (.cells #[.int .u64 vn, .int .u64 ve, .int .i64 vr, .int .u64 vm, .slice a k c] 34)).alloc (.cells #[.int .u64 un, .int .u64 ue, .int .i64 ur, .int .u64 um] 31)).alloc (.cells #[.int .u64 0, .int .u64 0, .int .i64 0, .int .u64 0, .slice none 0 0] 34)) = w3 at *
  have R4 : RcB w3.drew w.heap.size ⟨⟨⟨vn, ve, vr, vm⟩, L⟩, a, k, c⟩ := R3.out
  have V4 : VwB w3.drew (w.heap.size + 1) ⟨un, ue, ur, um⟩ := V3.out
  have Z4 : RcB w3.drew (w.heap.size + 1 + 1) ⟨⟨zeroV, []⟩, none, 0, 0⟩ := HZ3.out
  have B4 : Below w.heap.size w w3.drew := B3.out.trans (Below.mono (Grw.refl w3).drew.below B3.out.size)
  refine wp_region_held_drew (S := fun w' => RcB w' w.heap.size ⟨⟨⟨vn, ve, vr, vm⟩, L⟩, a, k, c⟩ ∧ VwB w' (w.heap.size + 1) ⟨un, ue, ur, um⟩) (by kernel_rfl) ⟨R4, V4⟩ (fun hHeld => ?_)
  clear R3 V3 HZ3 B3
  generalize w3.drew = w4 at *
  refine vtake (i := 0) (v := (.agg #[.int .u64 un, .int .u64 ue, .int .i64 ur, .int .u64 um])) 5 rfl (by kernel_rfl) (by kernel_rfl) (by kernel_rfl) (by kernel_rfl) (fun _ _ _ h => h) (.inl ⟨by kernel_rfl, fun w' hS => by (have q := VwB.own hS.2; have d0 := q.at_ 0 _ rfl; have d1 := q.at_ 1 _ rfl; have d2 := q.at_ 2 _ rfl; have d3 := q.at_ 3 _ rfl; go_simp)⟩) hHeld ?_
  (try simp only [Act.put, List.setIfInBounds_toArray, List.set_cons_zero, List.set_cons_succ])
  refine vtake (i := 1) (v := (.pointer (some ⟨w.heap.size, 4, none⟩))) 6 rfl (by kernel_rfl) (by kernel_rfl) (by kernel_rfl) (by kernel_rfl) (fun _ _ _ h => h) (.inl ⟨by kernel_rfl, fun w' hS => by (go_simp)⟩) hHeld ?_
  (try simp only [Act.put, List.setIfInBounds_toArray, List.set_cons_zero, List.set_cons_succ])
  refine vtake (i := 2) (v := (.slice a k c)) 7 rfl (by kernel_rfl) (by kernel_rfl) (by kernel_rfl) (by kernel_rfl) (fun _ _ _ h => h) (.inl ⟨by kernel_rfl, fun w' hS => by (have q := RcB.own hS.1; have d4 := q.at_ 4 _ rfl; go_simp)⟩) hHeld ?_
  (try simp only [Act.put, List.setIfInBounds_toArray, List.set_cons_zero, List.set_cons_succ])
  refine vtake (i := 3) (v := (.pointer (some ⟨w.heap.size + 1, 0, none⟩))) 8 rfl (by kernel_rfl) (by kernel_rfl) (by kernel_rfl) (by kernel_rfl) (fun _ _ _ h => h) (.inl ⟨by kernel_rfl, fun w' hS => by (go_simp)⟩) hHeld ?_
  (try simp only [Act.put, List.setIfInBounds_toArray, List.set_cons_zero, List.set_cons_succ])
  refine vtake (i := 4) (v := (.int .u64 un)) 9 rfl (by kernel_rfl) (by kernel_rfl) (by kernel_rfl) (by kernel_rfl) (fun _ _ _ h => h) (.inl ⟨by kernel_rfl, fun w' hS => by (have q := VwB.own hS.2; have d0 := q.at_ 0 _ rfl; go_simp)⟩) hHeld ?_
  (try simp only [Act.put, List.setIfInBounds_toArray, List.set_cons_zero, List.set_cons_succ])
  have P := vbehind (HX.out.pend.below B4) c un hun (show k ≤ 100000 by omega)
  refine wpAnyH_ready (rs := [5]) (by kernel_rfl) (by simp) (AllReadyH.cons rfl (fun K hK => ?_) AllReadyH.nil)
  clear hHeld
  rw [if_pos (by kernel_rfl)]
  go_simp
  refine P.mono ?_
  rintro e w5 ⟨v5, rfl, O5, L5⟩
  obtain ⟨a5, c5, rfl⟩ := own_form' O5
  clear P
  obtain ⟨B, hB⟩ : ∃ B, B = behindV L un := ⟨_, rfl⟩
  rw [← hB] at O5
  try rw [← hB]
  have HB := Lib.hid hB
  clear hB
  refine hK.out _ _ ⟨R4.later L5, V4.later L5⟩ (fun hHeld => ?_)
  clear hK K
  (try simp only [Act.put, List.setIfInBounds_toArray, List.set_cons_zero, List.set_cons_succ])
  refine vtake (i := 6) (v := (.agg #[.int .u64 un, .int .u64 ue, .int .i64 ur, .int .u64 um, .slice a5 B.length c5])) 11 rfl (by kernel_rfl) (by kernel_rfl) (by kernel_rfl) (by kernel_rfl) (fun _ _ _ h => h) (.inl ⟨by kernel_rfl, fun w' hS => by (go_simp)⟩) hHeld ?_
  (try simp only [Act.put, List.setIfInBounds_toArray, List.set_cons_zero, List.set_cons_succ])
  have Z5 := Z4.later L5
  have B5 := B4.trans (L5.mono B4.size)
  have O5' := own_base O5 B4.size
  refine wpAnyH_ready (rs := [7]) (by kernel_rfl) (by simp) (AllReadyH.cons rfl (fun K hK => ?_) AllReadyH.nil)
  rw [if_pos (by kernel_rfl)]
  refine wp_store_rc18 (.tmp 4) (.tmp 11) rfl (w.heap.size + 1 + 1) ⟨⟨⟨un, ue, ur, um⟩, B⟩, a5, B.length, c5⟩ rfl rfl Z5 rfl ?_
  have Z9 := Lib.hid (Z5.row ⟨⟨⟨un, ue, ur, um⟩, B⟩, a5, B.length, c5⟩)
  have B9 := Lib.hid (belowRow18 B5 (w.heap.size + 1 + 1) (by omega) (encRc ⟨⟨⟨un, ue, ur, um⟩, B⟩, a5, B.length, c5⟩).toArray)
  have O9 := Lib.hid (own_keep18 O5' (w' := w5.setRow (w.heap.size + 1 + 1) (encRc ⟨⟨⟨un, ue, ur, um⟩, B⟩, a5, B.length, c5⟩).toArray) (fun g hg => setRow_other _ _ _ _ (fun e => own_nrec O5' Z5 (by rw [hg, e]))))
  refine hK.out _ _ ⟨setRow_own hHeld.1 _ (by omega), setRow_own hHeld.2 _ (by omega)⟩ (fun hHeld => ?_)
  clear hK K hHeld
  (try simp only [Act.put, List.setIfInBounds_toArray, List.set_cons_zero, List.set_cons_succ])
  refine wpAnyH_done (by kernel_rfl) ?_ _
  go_wp2_with fail
  (try simp only [Exit.inBlock, Exit.then])
  exact bodyPost_ret (results_rc rfl _ _ (w.heap.size + 1 + 1) rfl Z9.out) rfl ⟨⟨⟨⟨un, ue, ur, um⟩, B⟩, a5, B.length, c5⟩, rfl, by rw [HB.out]; rfl, ⟨own_vws O9.out rfl (fun v hv => HX.out.pend.ok v ((behindV_mem _ _ _).1 (HB.out ▸ hv)).1), HV.out, own_nil18 O9.out⟩, by rw [HB.out]; exact Nat.le_trans (behindV_le L un) (Nat.le_of_eq HLEN.out), B9.out, fun ad e => own_at18 O9.out ad.block (by simp only at e; rw [e]; rfl)⟩
theorem vform {w : World} (x : Rc) (v : Vw) (hx : RcIn w x) (hv : v.ok) (hk : x.k ≤ 99999) :
    Calls Try.prog 24 #[valRc x, valV v] w fun e w' => ∃ y, e = .returned (valRc y) ∧ y.p = formR x.p v ∧ RcIn w' y ∧ y.k ≤ x.k ∧ Below w.heap.size w w' :=
  (vformN x v hx hv hk).mono fun e w' ⟨y, h1, h2, h3, h4, h5, _⟩ => ⟨y, h1, h2, h3, h4, h5⟩
end Go.Proofs.Ytlaenabckpjikaa
