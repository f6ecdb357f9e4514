/- The walk of 'DiskPlays'. -/
import Derived.Test.YtimdemidnleiiaaDiskOpen
import Derived.Deep.QuietTactic
import Derived.BigQuiet
set_option linter.unusedVariables false
set_option linter.unusedSimpArgs false
namespace Go.Proofs.Ytimdemidnleiiaa
open Go.RowKit Go.Sort

theorem RdB.grown {w w' : World} {g k : Nat} {a b : ByteArray} (h : RdB w g a b) (hb : w.grownBy w' (some k)) (hk : g ≠ k) : RdB w' g a b := h.own.grown hb (by intro e; cases e; exact hk rfl)
/-- The program's disk, the document's, the act's block. -/
structure Both (w wr : World) (g r q : Nat) (d d' : Dk) (x : DAc) : Prop where
  disk : DkAt wr g d
  ref : RdB wr r d'.a d'.b
  act : Own wr q 30 #[.string x.data, .bool x.tear, .int .i64 x.keep]
  below : Below w.heap.size w wr
theorem Both.later {w wr w' : World} {g r q : Nat} {d d' : Dk} {x : DAc} (h : Both w wr g r q d d' x) (hb : Below wr.heap.size wr w') : Both w w' g r q d d' x :=
  ⟨h.disk.below hb, h.ref.later hb, h.act.below hb h.act.lt, h.below.trans (hb.mono h.below.size)⟩
theorem Both.done {w wr w' : World} {g r q : Nat} {d d' d2 : Dk} {x : DAc} (h : Both w wr g r q d d' x) (hd : DkAt w' g d2) (hg : wr.grownBy w' (some g)) (h1 : r ≠ g) (h2 : q ≠ g) (h3 : w.heap.size ≤ g) : Both w w' g r q d2 d' x :=
  ⟨hd, h.ref.grown hg h1, h.act.grown hg (by intro e; cases e; exact h2 rfl), h.below.grown hg h.below.size (fun k hk => by cases hk; exact h3)⟩
theorem Both.put {w wr : World} {g r q : Nat} {d d' d2 : Dk} {x : DAc} (h : Both w wr g r q d d' x) (h1 : r ≠ g) (h2 : q ≠ r) (h3 : w.heap.size ≤ r) : Both w (wr.setRow r #[.string d2.a, .string d2.b]) g r q d d2 x :=
  ⟨⟨(setRow_other _ _ _ _ (Ne.symm h1)).trans h.disk.own, h.disk.ok⟩, h.ref.put d2.a d2.b, (setRow_other _ _ _ _ h2).trans h.act, dbelowRow h.below r h3 _⟩

theorem dslot_quiet {w : World} {g : Nat} {d : Dk} (h : DkAt w g d) (i : Int) (v : ByteArray) (hv : slotD d i = v) (h0 : -9223372036854775808 ≤ i) (h1 : i ≤ 9223372036854775807) (n : Nat) :
    Calls Try.prog 15 #[.pointer (some ⟨g, 0, none⟩), .int .i64 i] (w.drewN n) fun e w'' => e = .returned (.string v) ∧ ∃ m, w'' = w.drewN m := by
  refine (dslot (h.below ((Grw.refl w).drewN n).below) i h0 h1).mono ?_
  rintro e w' ⟨h1, h2⟩
  exact ⟨by rw [← hv]; exact h1, n, h2.symm⟩

set_option maxHeartbeats 4000000 in
set_option maxRecDepth 100000 in
theorem full_DiskPlays (ao : Option Addr) (len cap : Nat) (l : List DAc) (w : World) (hl : Lst encDA 3 w ao len l) (hle : len ≤ maxLen) (hok : ∀ m ∈ l, m.ok) :
    Calls Try.prog 3 #[.slice ao len cap] w fun e w' => e = .returned (.bool true) ∧ Below w.heap.size w w' := by
  have hlen := hl.size
  have HL := Lib.hid hl
  have HOK := Lib.hid hok
  clear hl hok
  go_enter Try.func3, Try.ntmps3
  go_wp2_with fail
  refine (dawake _).mono ?_
  rintro e w1 ⟨rfl, L1⟩
  go_wp2_with fail
  refine (dfew ao len cap l w1 (HL.out.below L1) hle HOK.out).mono ?_
  rintro e w' ⟨⟨bf, rfl⟩, rfl⟩
  cases bf
  · go_wp2
    go_ret
    exact ⟨rfl, L1⟩
  go_wp2_with fail
  refine (dnew w1).mono ?_
  rintro e w2 ⟨rfl, A2, L2'⟩
  have L2 := L1.trans (L2'.mono L1.size)
  have hs1 := L1.size
  generalize w1.heap.size = g at *
  clear L1 L2'
  unfold maxLen at hle
  go_upto_region 7 with fail
  have R3 := RdB.new w2 newD0.a newD0.b
  have A3 := A2.below ((Grw.refl w2).alloc (.cells #[.string newD0.a, .string newD0.b] 28)).below
  have L3 := L2.trans (((Grw.refl w2).alloc (.cells #[.string newD0.a, .string newD0.b] 28)).below.mono L2.size)
  have hrg : w2.heap.size ≠ g := by have := A2.lt; omega
  have hrw : w.heap.size ≤ w2.heap.size := L2.size
  clear A2 L2
  change RdB (w2.alloc (.cells #[.string { data := #[] }, .string { data := #[] }] 28)) w2.heap.size _ _ at R3
  change DkAt (w2.alloc (.cells #[.string { data := #[] }, .string { data := #[] }] 28)) g newD0 at A3
  change Below _ w (w2.alloc (.cells #[.string { data := #[] }, .string { data := #[] }] 28)) at L3
  generalize (w2.alloc (.cells #[.string { data := #[] }, .string { data := #[] }] 28)) = w3 at *
  generalize w2.heap.size = r at *
  go_wp2
  go_loopw [5] (fun i wr => ∃ (k : Nat) (d : Dk), k ≤ len ∧ i = .int .i64 k ∧ DkAt wr g d ∧ RdB wr r d.a d.b ∧ Below w.heap.size w wr) (fun i _ => len - (intOf i).toNat)
  case atStart => exact ⟨0, newD0, Nat.zero_le _, rfl, A3, R3, L3⟩
  case round =>
    obtain ⟨k, d, hk, rfl, A, RB, L⟩ := hrel
    clear A3 R3 L3
    by_cases hlt : k < len
    · have hkl : k < l.length := by omega
      obtain ⟨b, o, rfl, R⟩ := (HL.out.below L).src (by omega)
      have hx := List.getElem?_eq_getElem hkl
      have ha := HOK.out _ (List.getElem_mem hkl)
      generalize l[k] = x at hx ha
      obtain ⟨c0, c1, c2⟩ := dlst_at R k x hx
      have B3 : Both w (wr.alloc (.cells #[.string x.data, .bool x.tear, .int .i64 x.keep] 30)) g r wr.heap.size d d x := by
        have G := ((Grw.refl wr).alloc (.cells #[.string x.data, .bool x.tear, .int .i64 x.keep] 30)).below
        exact ⟨A.below G, RB.later G, Own.new wr _ _, L.trans (G.mono L.size)⟩
      have hqg : wr.heap.size ≠ g := by have := A.lt; omega
      have hqr : wr.heap.size ≠ r := by have := RB.lt; omega
      clear A RB L R hx hkl
      go_upto_region 11 with fail
      generalize wr.alloc (.cells #[.string x.data, .bool x.tear, .int .i64 x.keep] 30) = w4 at *
      generalize wr.heap.size = q at *
      clear c0 c1 c2
      have HACT : Hid (Calls Try.prog 10 #[.pointer (some ⟨g, 0, none⟩), .agg #[.string x.data, .bool x.tear, .int .i64 x.keep]] w4 fun e w' => e = .returned (.int .i64 (codeD x.data)) ∧ DkAt w' g (stepD d x) ∧ w4.grownBy w' (some g)) := Lib.hid (dact B3.disk x ha)
      have c0 := B3.act.at_ 0 _ rfl
      have c1 := B3.act.at_ 1 _ rfl
      have c2 := B3.act.at_ 2 _ rfl
      have hds := ha.sz
      have hk0 := ha.k0
      have hk1 := ha.k1
      have hdok := B3.disk.ok
      go_upto_region 12 with (go_at_call 10; refine HACT.out.mono ?_; rintro e w5 ⟨rfl, A5, G5⟩)
      have B5 := B3.done A5 G5 hrg hqg hs1
      clear HACT c0 c1 c2 B3 A5 G5 ha
      have c0 := B5.act.at_ 0 _ rfl
      have c1 := B5.act.at_ 1 _ rfl
      have c2 := B5.act.at_ 2 _ rfl
      have behind : Hid (∀ w6, Both w w6 g r q (stepD d x) (stepD d x) x → Calls Try.prog 13 #[.pointer (some ⟨g, 0, none⟩)] w6 (fun e w' => e = .returned (.tuple #[.string (recD (stepD d x)), .bool (fndB (stepD d x))]) ∧ Below w6.heap.size w6 w')) := Lib.hid (fun w6 h => dread h.disk)
      have behind2 : Hid (∀ w6, Both w w6 g r q (stepD d x) (stepD d x) x → Calls Try.prog 14 #[.agg #[.string (stepD d x).a, .string (stepD d x).b]] w6 (fun e w' => e = .returned (.tuple #[.string (recD (stepD d x)), .bool (fndB (stepD d x))]) ∧ Below w6.heap.size w6 w')) := Lib.hid (fun w6 h => rread _ h.disk.ok w6)
      cases ht : x.tear
      · have he : stepD d x = writeD d x.data := by unfold stepD; rw [ht]; rfl
        have HW : Hid (Calls Try.prog 12 #[.agg #[.string d.a, .string d.b], .string x.data] w5 fun e w' => e = .returned (.tuple #[.agg #[.string (stepD d x).a, .string (stepD d x).b], .int .i64 (codeD x.data)]) ∧ Below w5.heap.size w5 w') := Lib.hid (by rw [he]; exact rwrite d hdok x.data w5 hds)
        rw [ht] at c1
        clear he
        go_upto_region 16 with (first | (refine load_rd rfl (.tmp 4) rfl r rfl B5.ref ?_) | (go_at_call 12; refine HW.out.mono ?_; rintro e w6 ⟨rfl, L6⟩; (have B6 := B5.later L6); clear B5 L6) | (refine store_rd rfl (.tmp 4) (.tmp 48) rfl r (stepD d x).a (stepD d x).b rfl rfl B6.ref ?_))
        have B7 := B6.put (d2 := stepD d x) hrg hqr hrw
        clear B6 c0 c1 c2 HW
        generalize w6.setRow r #[.string (stepD d x).a, .string (stepD d x).b] = w7 at *
        have RD := Lib.hid (behind.out w7 B7)
        go_upto_region 17 with (go_at_call 13; refine RD.out.mono ?_; rintro e w8 ⟨rfl, L8⟩)
        have B8 := B7.later L8
        have RR := Lib.hid (behind2.out w8 B8)
        clear B7 L8 RD behind behind2
        go_upto_region 18 with (first | (refine load_rd rfl (.tmp 4) rfl r rfl B8.ref ?_) | (go_at_call 14; refine RR.out.mono ?_; rintro e w9 ⟨rfl, L9⟩))
        have B9 := B8.later L9
        clear B8 L9 RR
        have Q0 : Hid (∀ n, Calls Try.prog 15 #[.pointer (some ⟨g, 0, none⟩), .int .i64 0] (w9.drewN n) fun e w'' => e = .returned (.string (stepD d x).a) ∧ ∃ m, w'' = w9.drewN m) := Lib.hid (fun n => dslot_quiet B9.disk 0 _ rfl (by decide) (by decide) n)
        have Q1 : Hid (∀ n, Calls Try.prog 15 #[.pointer (some ⟨g, 0, none⟩), .int .i64 1] (w9.drewN n) fun e w'' => e = .returned (.string (stepD d x).b) ∧ ∃ m, w'' = w9.drewN m) := Lib.hid (fun n => dslot_quiet B9.disk 1 _ rfl (by decide) (by decide) n)
        have Q2 : Hid (∀ n, Calls Try.prog 15 #[.pointer (some ⟨g, 0, none⟩), .int .i64 (-1)] (w9.drewN n) fun e w'' => e = .returned (.string { data := #[] }) ∧ ∃ m, w'' = w9.drewN m) := Lib.hid (fun n => dslot_quiet B9.disk (-1) _ rfl (by decide) (by decide) n)
        have m0 := B9.ref.own.at_ 0 _ rfl
        have m1 := B9.ref.own.at_ 1 _ rfl
        have HB := Lib.hid B9
        clear B9
        generalize hD : stepD d x = D at *
        obtain ⟨Da, Db⟩ := D
        simp only at *
        go_quiet ((go_at_call 15; first | (with_reducible exact Q0.out _) | (with_reducible exact Q1.out _) | (with_reducible exact Q2.out _)))
        go_wp2
        go_roundw
        case rel => exact ⟨k + 1, ⟨Da, Db⟩, by omega, by go_num, HB.out.disk.below ((Grw.refl _).drewN _).below, HB.out.ref.later ((Grw.refl _).drewN _).below, HB.out.below.trans (((Grw.refl _).drewN _).below.mono HB.out.below.size)⟩
        case measure => simp [intOf]; omega
      · have he : stepD d x = tearD d x.data x.keep := by unfold stepD; rw [ht]; rfl
        have HW : Hid (Calls Try.prog 11 #[.agg #[.string d.a, .string d.b], .string x.data, .int .i64 x.keep] w5 fun e w' => e = .returned (.tuple #[.agg #[.string (stepD d x).a, .string (stepD d x).b], .int .i64 (codeD x.data)]) ∧ Below w5.heap.size w5 w') := Lib.hid (by rw [he]; exact rtear d hdok x.data x.keep w5 hds hk0 hk1)
        rw [ht] at c1
        clear he
        go_upto_region 16 with (first | (refine load_rd rfl (.tmp 4) rfl r rfl B5.ref ?_) | (go_at_call 11; refine HW.out.mono ?_; rintro e w6 ⟨rfl, L6⟩; (have B6 := B5.later L6); clear B5 L6) | (refine store_rd rfl (.tmp 4) (.tmp 41) rfl r (stepD d x).a (stepD d x).b rfl rfl B6.ref ?_))
        have B7 := B6.put (d2 := stepD d x) hrg hqr hrw
        clear B6 c0 c1 c2 HW
        generalize w6.setRow r #[.string (stepD d x).a, .string (stepD d x).b] = w7 at *
        have RD := Lib.hid (behind.out w7 B7)
        go_upto_region 17 with (go_at_call 13; refine RD.out.mono ?_; rintro e w8 ⟨rfl, L8⟩)
        have B8 := B7.later L8
        have RR := Lib.hid (behind2.out w8 B8)
        clear B7 L8 RD behind behind2
        go_upto_region 18 with (first | (refine load_rd rfl (.tmp 4) rfl r rfl B8.ref ?_) | (go_at_call 14; refine RR.out.mono ?_; rintro e w9 ⟨rfl, L9⟩))
        have B9 := B8.later L9
        clear B8 L9 RR
        have Q0 : Hid (∀ n, Calls Try.prog 15 #[.pointer (some ⟨g, 0, none⟩), .int .i64 0] (w9.drewN n) fun e w'' => e = .returned (.string (stepD d x).a) ∧ ∃ m, w'' = w9.drewN m) := Lib.hid (fun n => dslot_quiet B9.disk 0 _ rfl (by decide) (by decide) n)
        have Q1 : Hid (∀ n, Calls Try.prog 15 #[.pointer (some ⟨g, 0, none⟩), .int .i64 1] (w9.drewN n) fun e w'' => e = .returned (.string (stepD d x).b) ∧ ∃ m, w'' = w9.drewN m) := Lib.hid (fun n => dslot_quiet B9.disk 1 _ rfl (by decide) (by decide) n)
        have Q2 : Hid (∀ n, Calls Try.prog 15 #[.pointer (some ⟨g, 0, none⟩), .int .i64 (-1)] (w9.drewN n) fun e w'' => e = .returned (.string { data := #[] }) ∧ ∃ m, w'' = w9.drewN m) := Lib.hid (fun n => dslot_quiet B9.disk (-1) _ rfl (by decide) (by decide) n)
        have m0 := B9.ref.own.at_ 0 _ rfl
        have m1 := B9.ref.own.at_ 1 _ rfl
        have HB := Lib.hid B9
        clear B9
        generalize hD : stepD d x = D at *
        obtain ⟨Da, Db⟩ := D
        simp only at *
        go_quiet ((go_at_call 15; first | (with_reducible exact Q0.out _) | (with_reducible exact Q1.out _) | (with_reducible exact Q2.out _)))
        go_wp2
        go_roundw
        case rel => exact ⟨k + 1, ⟨Da, Db⟩, by omega, by go_num, HB.out.disk.below ((Grw.refl _).drewN _).below, HB.out.ref.later ((Grw.refl _).drewN _).below, HB.out.below.trans (((Grw.refl _).drewN _).below.mono HB.out.below.size)⟩
        case measure => simp [intOf]; omega
    · go_wp2
      go_ret
      exact ⟨rfl, L⟩
theorem walk_DiskPlays {w : World} (ao : Option Addr) (len cap : Nat) (l : List DAc) (hl : Lst encDA 3 w ao len l ∧ len ≤ maxLen ∧ ∀ m ∈ l, m.ok) :
    Calls Try.prog 3 #[.slice ao len cap] w fun e w' => e = .returned (.bool true) ∧ Below w.heap.size w w' := full_DiskPlays ao len cap l w hl.1 hl.2.1 hl.2.2
end Go.Proofs.Ytimdemidnleiiaa
