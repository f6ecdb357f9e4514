/- The walk of 'NetLinks'. -/
import Derived.Test.YtpbeohonohcgdaaRNetOpen
set_option linter.unusedVariables false
set_option linter.unusedSimpArgs false
namespace Go.Proofs.YtpbeohonohcgdaaR
open Go.RowKit Go.Sort

def cutsL (L : List Nat) (cs : List Nat) : List Nat := cs.foldl cutL L
def cutN (n : Int) (cs : List Nat) : Nt := ⟨below n, cutsL (healL (below n) (List.replicate 64 0)) cs, []⟩
/-- Is p a process? -/
def atB (n p : Int) : Bool := decide (0 ≤ p) && (decide (p < n) && decide (p < 64))
def alikeB (cs : List Nat) (p q : Int) : Bool := cs.all fun s => mem s p == mem s q
def lkB (n : Int) (cs : List Nat) (p q : Int) : Bool := atB n p && (atB n q && alikeB cs p q)
theorem mem_below (n p : Int) : mem (below n) p = atB n p := by
  unfold mem atB
  by_cases h0 : 0 ≤ p
  · by_cases h1 : p < 64
    · obtain ⟨k, rfl⟩ := Int.eq_ofNat_of_zero_le h0
      rw [Int.toNat_natCast]
      unfold below
      rw [num_bit, decide_eq_true (show k < 64 by omega), decide_eq_true h0, decide_eq_true h1]
      simp
    · rw [decide_eq_false h1]; simp
  · rw [decide_eq_false h0]; simp
theorem cutsL_length (cs L : List Nat) : (cutsL L cs).length = L.length := by
  unfold cutsL
  induction cs generalizing L with
  | nil => rfl
  | cons c r ih => rw [List.foldl_cons, ih, cutL_length]
theorem cut_bit (a s p q : Nat) (hq : q < 64) : (if s.testBit p then both a s else but a s).testBit q = (a.testBit q && (s.testBit p == s.testBit q)) := by
  cases hp : s.testBit p
  · rw [if_neg (by simp)]
    unfold but
    rw [num_bit, decide_eq_true hq]
    cases a.testBit q <;> cases s.testBit q <;> rfl
  · rw [if_pos rfl]
    unfold both
    rw [num_bit, decide_eq_true hq]
    cases a.testBit q <;> cases s.testBit q <;> rfl
theorem cutsL_bit (p q : Nat) (hq : q < 64) : ∀ (cs L : List Nat) (a : Nat), L[p]? = some a → ∃ b, (cutsL L cs)[p]? = some b ∧ b.testBit q = (a.testBit q && cs.all fun s => s.testBit p == s.testBit q)
  | [], L, a, h => ⟨a, h, by simp⟩
  | c :: r, L, a, h => by
    obtain ⟨hl, rfl⟩ := List.getElem?_eq_some_iff.1 h
    obtain ⟨b, h1, h2⟩ := cutsL_bit p q hq r (cutL L c) _ (cutL_at L c p hl)
    refine ⟨b, h1, ?_⟩
    rw [h2, cut_bit _ _ _ _ hq, List.all_cons, Bool.and_assoc]
theorem zeros_link (P i : Nat) (h : i < 64) : (healL P (List.replicate 64 0))[i]? = some (if P.testBit i then P else 0) := by
  rw [healL_at P _ i (by simpa using h) h]
  cases P.testBit i
  · rw [if_neg (by simp), if_neg (by simp), List.getElem?_replicate, if_pos h]
  · rw [if_pos rfl, if_pos rfl]
/-- Who is linked, after some cuts. -/
theorem linked_cuts (n : Int) (cs : List Nat) (p q : Int) : linkedB (cutN n cs) p q = lkB n cs p q := by
  unfold linkedB lkB
  show (mem (below n) p && mem ((cutsL (healL (below n) (List.replicate 64 0)) cs).getD p.toNat 0) q) = _
  rw [mem_below]
  cases hp : atB n p
  · rfl
  · have h1 := hp
    rw [← mem_below] at h1
    obtain ⟨p0, p1⟩ := mem_range h1
    obtain ⟨i, rfl⟩ := Int.eq_ofNat_of_zero_le p0
    have hi : i < 64 := by omega
    have hbit : (below n).testBit i = true := by rw [mem_nat _ _ hi] at h1; exact h1
    have hz := zeros_link (below n) i hi
    rw [hbit, if_pos rfl] at hz
    rw [Int.toNat_natCast, List.getD_eq_getElem?_getD]
    rw [Bool.true_and, Bool.true_and]
    by_cases hq : 0 ≤ q ∧ q < 64
    · obtain ⟨j, rfl⟩ := Int.eq_ofNat_of_zero_le hq.1
      have hj : j < 64 := by omega
      obtain ⟨b, h2, h3⟩ := cutsL_bit i j hj cs _ _ hz
      rw [h2]
      show mem b (j : Int) = _
      rw [mem_nat _ _ hj, h3, ← mem_below, mem_nat _ _ hj]
      unfold alikeB
      congr 1
      apply List.all_congr rfl
      intro s
      rw [mem_nat _ _ hi, mem_nat _ _ hj]
    · have e1 : ∀ a, mem a q = false := fun a => by
        unfold mem
        rcases Decidable.not_and_iff_or_not.1 hq with h | h
        · rw [decide_eq_false h]; simp
        · rw [decide_eq_false h]; simp
      rw [e1, ← mem_below, e1]; rfl
theorem alike_symm (cs : List Nat) (p q : Int) : alikeB cs q p = alikeB cs p q := by
  unfold alikeB
  apply List.all_congr rfl
  intro s
  cases mem s p <;> cases mem s q <;> rfl
theorem alike_self (cs : List Nat) (p : Int) : alikeB cs p p = true := by
  unfold alikeB
  rw [List.all_eq_true]
  intro s _
  simp
theorem alike_trans (cs : List Nat) (p q r : Int) (h1 : alikeB cs p q = true) (h2 : alikeB cs q r = true) : alikeB cs p r = true := by
  unfold alikeB at *
  rw [List.all_eq_true] at *
  intro s hs
  have a := h1 s hs
  have b := h2 s hs
  simp at a b ⊢
  rw [a, b]
theorem lk_symm (n : Int) (cs : List Nat) (p q : Int) : lkB n cs q p = lkB n cs p q := by
  unfold lkB
  rw [alike_symm]
  cases atB n p <;> cases atB n q <;> rfl
theorem lk_self (n : Int) (cs : List Nat) (p : Int) : lkB n cs p p = atB n p := by
  unfold lkB
  rw [alike_self]
  cases atB n p <;> rfl
theorem lk_trans (n : Int) (cs : List Nat) (p q r : Int) (h1 : lkB n cs p q = true) (h2 : lkB n cs q r = true) : lkB n cs p r = true := by
  unfold lkB at *
  simp at h1 h2 ⊢
  exact ⟨h1.1, h2.2.1, alike_trans cs p q r h1.2.2 h2.2.2⟩
theorem cutN_snoc (n : Int) (cs : List Nat) (c : Nat) : ({ cutN n cs with links := cutL (cutN n cs).links c } : Nt) = cutN n (cs ++ [c]) := by
  unfold cutN cutsL
  simp only [List.foldl_append, List.foldl_cons, List.foldl_nil]
/-- Healed. -/
theorem linked_healed (n : Int) (cs : List Nat) (p q : Int) : linkedB { cutN n cs with links := healL (cutN n cs).procs (cutN n cs).links } p q = (atB n p && atB n q) := by
  unfold linkedB
  show (mem (below n) p && mem ((healL (below n) (cutN n cs).links).getD p.toNat 0) q) = _
  rw [mem_below]
  cases hp : atB n p
  · rfl
  · have h1 := hp
    rw [← mem_below] at h1
    obtain ⟨p0, p1⟩ := mem_range h1
    obtain ⟨i, rfl⟩ := Int.eq_ofNat_of_zero_le p0
    have hi : i < 64 := by omega
    have hbit : (below n).testBit i = true := by rw [mem_nat _ _ hi] at h1; exact h1
    have hl : (cutN n cs).links.length = 64 := by
      show (cutsL (healL (below n) (List.replicate 64 0)) cs).length = 64
      rw [cutsL_length]
      unfold healL
      rw [foldl_set_length]; rfl
    rw [Int.toNat_natCast, List.getD_eq_getElem?_getD, healL_at _ _ i (by omega) hi, hbit, if_pos rfl, Bool.true_and, Bool.true_and]
    show mem (below n) q = _
    exact mem_below n q

def encW (s : Nat) : List Value := [.int .u64 (s : Int)]
set_option maxHeartbeats 1000000 in
theorem nat_fn (n p : Int) (b : Nat) (w : World) (c : w.cell? ⟨b, 0, none⟩ = some (.int .i64 n)) (h0 : -9223372036854775808 ≤ p) (h1 : p ≤ 9223372036854775807) :
    Calls Try.prog 14 #[.int .i64 p, .pointer (some ⟨b, 0, none⟩)] w fun e w' => e = .returned (.bool (atB n p)) ∧ w = w' := by
  have HD := Lib.hid (show (decide (0 ≤ p) && (decide (p < n) && decide (p < 64))) = atB n p from rfl)
  by_cases a : 0 ≤ p
  · by_cases b : p < n
    · go_enter Try.func14, Try.ntmps14
      go_wp2
      go_ret
      exact ⟨by rw [← HD.out, decide_eq_true a, decide_eq_true b]; rfl, rfl⟩
    · go_enter Try.func14, Try.ntmps14
      go_wp2
      go_ret
      exact ⟨by rw [← HD.out, decide_eq_true a, decide_eq_false (show ¬ p < n by omega)]; rfl, rfl⟩
  · go_enter Try.func14, Try.ntmps14
    go_wp2
    go_ret
    exact ⟨by rw [← HD.out, decide_eq_false (show ¬ 0 ≤ p by omega)]; rfl, rfl⟩

set_option maxHeartbeats 8000000 in
set_option maxRecDepth 100000 in
theorem full_NetLinks (n p q r : Int) (n0 : -9223372036854775808 ≤ n) (n1 : n ≤ 9223372036854775807) (p0 : -9223372036854775808 ≤ p) (p1 : p ≤ 9223372036854775807) (q0 : -9223372036854775808 ≤ q) (q1 : q ≤ 9223372036854775807) (r0 : -9223372036854775808 ≤ r) (r1 : r ≤ 9223372036854775807)
    (ao : Option Addr) (len cap : Nat) (l : List Nat) (w : World) (hl : Lst encW 1 w ao len l) (hb : ∀ s ∈ l, s < 18446744073709551616) :
    Calls Try.prog 4 #[.int .i64 n, .slice ao len cap, .int .i64 p, .int .i64 q, .int .i64 r] w fun e w' => e = .returned (.bool true) ∧ Below w.heap.size w w' := by
  have hlen := hl.size
  have HB0 : Hid (Go.RowKit.Below w.heap.size w (w.alloc (.cells #[.int .i64 n] 3))) := Lib.hid ((Below.refl _ _).alloc (Nat.le_refl _) _)
  have HO := Own.new w 3 #[.int .i64 n]
  have HOlt := HO.lt
  have HL := Lib.hid hl
  have HBD := Lib.hid hb
  clear hl hb
  by_cases h200 : (200 : Int) < (len : Int)
  · go_enter Try.func4, Try.ntmps4
    go_wp2_with fail
    refine (nawake _).mono ?_
    rintro e w1 ⟨rfl, L1⟩
    go_wp2
    go_ret
    exact ⟨rfl, HB0.out.trans (L1.mono HB0.out.size)⟩
  go_enter Try.func4, Try.ntmps4
  go_wp2_with fail
  refine (nawake _).mono ?_
  rintro e w1 ⟨rfl, L1⟩
  have O1 := HO.below L1 HOlt
  have c1 := O1.at_ 0 _ rfl
  have L1 := HB0.out.trans (L1.mono HB0.out.size)
  have hbx := O1.lt
  clear HB0 HO HOlt
  go_wp2_with (go_at_call 9; refine (nnew n w1 n0 n1).mono ?_; rintro e w2 ⟨rfl, A2, L2'⟩)
  have L2 := L1.trans (L2'.mono L1.size)
  have O2 := O1.below L2' hbx
  clear O1 c1 L1 L2'
  generalize w1.heap.size = g at *
  have hwg : w.heap.size < g := by omega
  have HL2 : Hid (∀ W, Go.RowKit.Below w.heap.size w W → Lst encW 1 W ao len l) := Lib.hid fun W h => HL.out.below h
  go_loopw [13, 14] (fun al i wr => ∃ k : Nat, k ≤ len ∧ i = .int .i64 k ∧ al = .bool (alikeB (l.take k) p q) ∧ NetAt wr g g (cutN n (l.take k)) none 0 ∧ Below w.heap.size w wr ∧ Own wr w.heap.size 3 #[.int .i64 n]) (fun _ i _ => len - (intOf i).toNat)
  case atStart => exact ⟨0, Nat.zero_le _, rfl, rfl, A2, L2, O2⟩
  case round =>
    obtain ⟨k, hk, rfl, rfl, A, L, O⟩ := hrel
    clear A2 L2 O2
    by_cases hlt : k < len
    · have hkl : k < l.length := by omega
      obtain ⟨b, o, rfl, R⟩ := (HL2.out _ L).src (by omega)
      have cs := R k l[k] (List.getElem?_eq_getElem hkl) 0 _ rfl
      have hs := HBD.out _ (List.getElem_mem hkl)
      have HXX := List.getElem?_eq_getElem hkl
      have HT : Hid (l.take (k + 1) = l.take k ++ [l[k]]) := Lib.hid (List.take_succ_eq_append_getElem hkl)
      generalize l[k] = s at *
      have HXX := Lib.hid HXX
      rw [Nat.mul_one, Nat.add_zero] at cs
      have HC := Lib.hid (ncut A s hs)
      have HA := Lib.hid A
      have HLL := Lib.hid L
      have HO := Lib.hid O
      clear A L O R hkl
      go_upto_region 12 with (go_at_call 15; refine HC.out.mono ?_; rintro e w3 ⟨rfl, A3, M3⟩)
      have hbg := M3.below HA.out (Nat.le_refl _)
      have L3 := HLL.out.trans (hbg.mono (by omega))
      have O3 := HO.out.below hbg hwg
      rw [cutN_snoc, ← HT.out] at A3
      obtain ⟨b', o', e', R⟩ := (HL2.out _ L3).src (by omega)
      cases e'
      clear HC HA HLL HO M3 hbg cs
      have cs := R k s HXX.out 0 _ rfl
      rw [Nat.mul_one, Nat.add_zero] at cs
      have HAL : Hid (alikeB (l.take (k + 1)) p q = (alikeB (l.take k) p q && (mem s p == mem s q))) := Lib.hid (by rw [HT.out]; unfold alikeB; rw [List.all_append]; simp)
      have HA3 := Lib.hid A3
      have HL3 := Lib.hid L3
      have HO3 := Lib.hid O3
      have P3 := Lib.hid (fun nq => (⟨HA3.out.drewN nq, below_drewN HL3.out nq, HO3.out⟩ : NetAt (w3.drewN nq) g g (cutN n (l.take (k + 1))) none 0 ∧ Go.RowKit.Below w.heap.size w (w3.drewN nq) ∧ Own w3 w.heap.size 3 #[.int .i64 n]))
      clear A3 L3 O3 R HT
      cases hal : alikeB (l.take k) p q
      · have HV := Lib.hid (show alikeB (l.take (k + 1)) p q = false by rw [HAL.out, hal]; rfl)
        clear HAL hal
        go_wp2_with fail
        go_quiet (fail)
        go_wp2
        go_roundw
        case rel => exact ⟨k + 1, by omega, by go_num, by rw [HV.out] <;> rfl, (P3.out _).1, (P3.out _).2.1, (P3.out 0).2.2⟩
        case measure => simp [intOf]; omega
      · cases m1 : mem s p
        all_goals
          cases m2 : mem s q
          all_goals
            have hv : alikeB (l.take (k + 1)) p q = (mem s p == mem s q) := by rw [HAL.out, hal, Bool.true_and]
            rw [m1, m2] at hv
            have HV := Lib.hid hv
            have M1 := Lib.hid (has_quiet m1 hs p0 p1)
            have M2 := Lib.hid (has_quiet m2 hs q0 q1)
            clear HAL hal m1 m2 hv
            go_wp2_with fail
            go_quiet ((go_at_call 16; first | (with_reducible exact M1.out _ _) | (with_reducible exact M2.out _ _)))
            go_wp2
            go_roundw
            case rel => exact ⟨k + 1, by omega, by go_num, by rw [HV.out] <;> rfl, (P3.out _).1, (P3.out _).2.1, (P3.out 0).2.2⟩
            case measure => simp [intOf]; omega
    · have hT : l.take k = l := List.take_of_length_le (by omega)
      rw [hT] at A ⊢
      clear hT
      obtain rfl : k = len := by omega
      have HA := Lib.hid A
      have HLL := Lib.hid L
      have c := O.at_ 0 _ rfl
      have HO := Lib.hid O
      obtain ⟨x, hx⟩ : ∃ x, lkB n l p q = x := ⟨_, rfl⟩
      obtain ⟨y, hy⟩ : ∃ y, lkB n l q r = y := ⟨_, rfl⟩
      obtain ⟨z, hz⟩ : ∃ z, lkB n l p r = z := ⟨_, rfl⟩
      obtain ⟨ap, hap⟩ : ∃ x, atB n p = x := ⟨_, rfl⟩
      obtain ⟨aq, haq⟩ : ∃ x, atB n q = x := ⟨_, rfl⟩
      obtain ⟨al, hal⟩ : ∃ x, alikeB l p q = x := ⟨_, rfl⟩
      have X1 := nlinked A p q p0 p1 q0 q1
      have X2 := nlinked A q p q0 q1 p0 p1
      have X3 := nlinked A q r q0 q1 r0 r1
      have X4 := nlinked A p r p0 p1 r0 r1
      have X5 := nlinked A p p p0 p1 p0 p1
      have F1 := nat_fn n p w.heap.size wr c p0 p1
      have F2 := nat_fn n q w.heap.size wr c q0 q1
      rw [linked_cuts, hx] at X1
      rw [linked_cuts, lk_symm, hx] at X2
      rw [linked_cuts, hy] at X3
      rw [linked_cuts, hz] at X4
      rw [linked_cuts, lk_self, hap] at X5
      rw [hap] at F1
      rw [haq] at F2
      have hxx : x = (ap && (aq && al)) := by rw [← hx, ← hap, ← haq, ← hal]; rfl
      have htr : x = true → y = true → z = true := fun e1 e2 => by rw [← hz]; exact lk_trans n l p q r (by rw [hx, e1]) (by rw [hy, e2])
      have HH := Lib.hid (nheal A)
      have HHL : Hid (linkedB { cutN n l with links := healL (cutN n l).procs (cutN n l).links } p q = (ap && aq)) := Lib.hid (by rw [linked_healed, hap, haq])
      rw [hal]
      have HAP := Lib.hid hap
      have HAQ := Lib.hid haq
      clear A L O hx hy hz hap haq hal c
      have X1 := Lib.hid X1
      have X2 := Lib.hid X2
      have X3 := Lib.hid X3
      have X4 := Lib.hid X4
      have X5 := Lib.hid X5
      have F1 := Lib.hid F1
      have F2 := Lib.hid F2
      cases ap
      · obtain rfl : x = false := hxx
        ((try clear hxx); (try clear htr))
        cases al
        all_goals
          go_upto_region 18 with (first | (go_at_call 13; first | ((with_reducible refine X1.out.mono ?_); rintro e w' ⟨rfl, rfl⟩) | ((with_reducible refine X2.out.mono ?_); rintro e w' ⟨rfl, rfl⟩) | ((with_reducible refine X3.out.mono ?_); rintro e w' ⟨rfl, rfl⟩) | ((with_reducible refine X4.out.mono ?_); rintro e w' ⟨rfl, rfl⟩) | ((with_reducible refine X5.out.mono ?_); rintro e w' ⟨rfl, rfl⟩)) | (go_at_call 14; first | ((with_reducible refine F1.out.mono ?_); rintro e w' ⟨rfl, rfl⟩) | ((with_reducible refine F2.out.mono ?_); rintro e w' ⟨rfl, rfl⟩)) | (go_at_call 17; refine HH.out.mono ?_; rintro e w4 ⟨rfl, A4, M4⟩))
          have hbg := M4.below HA.out (Nat.le_refl _)
          have L4 := Lib.hid (HLL.out.trans (hbg.mono (by omega)))
          have O4 := HO.out.below hbg hwg
          have c4 := O4.at_ 0 _ rfl
          have X1 := nlinked A4 p q p0 p1 q0 q1
          have F1 := nat_fn n p w.heap.size w4 c4 p0 p1
          have F2 := nat_fn n q w.heap.size w4 c4 q0 q1
          rw [HHL.out] at X1
          rw [HAP.out] at F1
          rw [HAQ.out] at F2
          have X1 := Lib.hid X1
          have F1 := Lib.hid F1
          have F2 := Lib.hid F2
          clear HH HHL HAP HAQ HA HLL HO A4 M4 hbg O4 c4
          go_wp2_with (first | (go_at_call 13; ((with_reducible refine X1.out.mono ?_); rintro e w' ⟨rfl, rfl⟩)) | (go_at_call 14; first | ((with_reducible refine F1.out.mono ?_); rintro e w' ⟨rfl, rfl⟩) | ((with_reducible refine F2.out.mono ?_); rintro e w' ⟨rfl, rfl⟩)))
          go_ret
          exact ⟨rfl, L4.out⟩
      cases aq
      · obtain rfl : x = false := hxx
        ((try clear hxx); (try clear htr))
        cases al
        all_goals
          go_upto_region 18 with (first | (go_at_call 13; first | ((with_reducible refine X1.out.mono ?_); rintro e w' ⟨rfl, rfl⟩) | ((with_reducible refine X2.out.mono ?_); rintro e w' ⟨rfl, rfl⟩) | ((with_reducible refine X3.out.mono ?_); rintro e w' ⟨rfl, rfl⟩) | ((with_reducible refine X4.out.mono ?_); rintro e w' ⟨rfl, rfl⟩) | ((with_reducible refine X5.out.mono ?_); rintro e w' ⟨rfl, rfl⟩)) | (go_at_call 14; first | ((with_reducible refine F1.out.mono ?_); rintro e w' ⟨rfl, rfl⟩) | ((with_reducible refine F2.out.mono ?_); rintro e w' ⟨rfl, rfl⟩)) | (go_at_call 17; refine HH.out.mono ?_; rintro e w4 ⟨rfl, A4, M4⟩))
          have hbg := M4.below HA.out (Nat.le_refl _)
          have L4 := Lib.hid (HLL.out.trans (hbg.mono (by omega)))
          have O4 := HO.out.below hbg hwg
          have c4 := O4.at_ 0 _ rfl
          have X1 := nlinked A4 p q p0 p1 q0 q1
          have F1 := nat_fn n p w.heap.size w4 c4 p0 p1
          have F2 := nat_fn n q w.heap.size w4 c4 q0 q1
          rw [HHL.out] at X1
          rw [HAP.out] at F1
          rw [HAQ.out] at F2
          have X1 := Lib.hid X1
          have F1 := Lib.hid F1
          have F2 := Lib.hid F2
          clear HH HHL HAP HAQ HA HLL HO A4 M4 hbg O4 c4
          go_wp2_with (first | (go_at_call 13; ((with_reducible refine X1.out.mono ?_); rintro e w' ⟨rfl, rfl⟩)) | (go_at_call 14; first | ((with_reducible refine F1.out.mono ?_); rintro e w' ⟨rfl, rfl⟩) | ((with_reducible refine F2.out.mono ?_); rintro e w' ⟨rfl, rfl⟩)))
          go_ret
          exact ⟨rfl, L4.out⟩
      cases al
      · obtain rfl : x = false := hxx
        ((try clear hxx); (try clear htr))
        go_upto_region 18 with (first | (go_at_call 13; first | ((with_reducible refine X1.out.mono ?_); rintro e w' ⟨rfl, rfl⟩) | ((with_reducible refine X2.out.mono ?_); rintro e w' ⟨rfl, rfl⟩) | ((with_reducible refine X3.out.mono ?_); rintro e w' ⟨rfl, rfl⟩) | ((with_reducible refine X4.out.mono ?_); rintro e w' ⟨rfl, rfl⟩) | ((with_reducible refine X5.out.mono ?_); rintro e w' ⟨rfl, rfl⟩)) | (go_at_call 14; first | ((with_reducible refine F1.out.mono ?_); rintro e w' ⟨rfl, rfl⟩) | ((with_reducible refine F2.out.mono ?_); rintro e w' ⟨rfl, rfl⟩)) | (go_at_call 17; refine HH.out.mono ?_; rintro e w4 ⟨rfl, A4, M4⟩))
        have hbg := M4.below HA.out (Nat.le_refl _)
        have L4 := Lib.hid (HLL.out.trans (hbg.mono (by omega)))
        have O4 := HO.out.below hbg hwg
        have c4 := O4.at_ 0 _ rfl
        have X1 := nlinked A4 p q p0 p1 q0 q1
        have F1 := nat_fn n p w.heap.size w4 c4 p0 p1
        have F2 := nat_fn n q w.heap.size w4 c4 q0 q1
        rw [HHL.out] at X1
        rw [HAP.out] at F1
        rw [HAQ.out] at F2
        have X1 := Lib.hid X1
        have F1 := Lib.hid F1
        have F2 := Lib.hid F2
        clear HH HHL HAP HAQ HA HLL HO A4 M4 hbg O4 c4
        go_wp2_with (first | (go_at_call 13; ((with_reducible refine X1.out.mono ?_); rintro e w' ⟨rfl, rfl⟩)) | (go_at_call 14; first | ((with_reducible refine F1.out.mono ?_); rintro e w' ⟨rfl, rfl⟩) | ((with_reducible refine F2.out.mono ?_); rintro e w' ⟨rfl, rfl⟩)))
        go_ret
        exact ⟨rfl, L4.out⟩
      obtain rfl : x = true := hxx
      cases y
      · ((try clear hxx); (try clear htr))
        go_upto_region 18 with (first | (go_at_call 13; first | ((with_reducible refine X1.out.mono ?_); rintro e w' ⟨rfl, rfl⟩) | ((with_reducible refine X2.out.mono ?_); rintro e w' ⟨rfl, rfl⟩) | ((with_reducible refine X3.out.mono ?_); rintro e w' ⟨rfl, rfl⟩) | ((with_reducible refine X4.out.mono ?_); rintro e w' ⟨rfl, rfl⟩) | ((with_reducible refine X5.out.mono ?_); rintro e w' ⟨rfl, rfl⟩)) | (go_at_call 14; first | ((with_reducible refine F1.out.mono ?_); rintro e w' ⟨rfl, rfl⟩) | ((with_reducible refine F2.out.mono ?_); rintro e w' ⟨rfl, rfl⟩)) | (go_at_call 17; refine HH.out.mono ?_; rintro e w4 ⟨rfl, A4, M4⟩))
        have hbg := M4.below HA.out (Nat.le_refl _)
        have L4 := Lib.hid (HLL.out.trans (hbg.mono (by omega)))
        have O4 := HO.out.below hbg hwg
        have c4 := O4.at_ 0 _ rfl
        have X1 := nlinked A4 p q p0 p1 q0 q1
        have F1 := nat_fn n p w.heap.size w4 c4 p0 p1
        have F2 := nat_fn n q w.heap.size w4 c4 q0 q1
        rw [HHL.out] at X1
        rw [HAP.out] at F1
        rw [HAQ.out] at F2
        have X1 := Lib.hid X1
        have F1 := Lib.hid F1
        have F2 := Lib.hid F2
        clear HH HHL HAP HAQ HA HLL HO A4 M4 hbg O4 c4
        go_wp2_with (first | (go_at_call 13; ((with_reducible refine X1.out.mono ?_); rintro e w' ⟨rfl, rfl⟩)) | (go_at_call 14; first | ((with_reducible refine F1.out.mono ?_); rintro e w' ⟨rfl, rfl⟩) | ((with_reducible refine F2.out.mono ?_); rintro e w' ⟨rfl, rfl⟩)))
        go_ret
        exact ⟨rfl, L4.out⟩
      · obtain rfl : z = true := htr rfl rfl
        ((try clear hxx); (try clear htr))
        go_upto_region 18 with (first | (go_at_call 13; first | ((with_reducible refine X1.out.mono ?_); rintro e w' ⟨rfl, rfl⟩) | ((with_reducible refine X2.out.mono ?_); rintro e w' ⟨rfl, rfl⟩) | ((with_reducible refine X3.out.mono ?_); rintro e w' ⟨rfl, rfl⟩) | ((with_reducible refine X4.out.mono ?_); rintro e w' ⟨rfl, rfl⟩) | ((with_reducible refine X5.out.mono ?_); rintro e w' ⟨rfl, rfl⟩)) | (go_at_call 14; first | ((with_reducible refine F1.out.mono ?_); rintro e w' ⟨rfl, rfl⟩) | ((with_reducible refine F2.out.mono ?_); rintro e w' ⟨rfl, rfl⟩)) | (go_at_call 17; refine HH.out.mono ?_; rintro e w4 ⟨rfl, A4, M4⟩))
        have hbg := M4.below HA.out (Nat.le_refl _)
        have L4 := Lib.hid (HLL.out.trans (hbg.mono (by omega)))
        have O4 := HO.out.below hbg hwg
        have c4 := O4.at_ 0 _ rfl
        have X1 := nlinked A4 p q p0 p1 q0 q1
        have F1 := nat_fn n p w.heap.size w4 c4 p0 p1
        have F2 := nat_fn n q w.heap.size w4 c4 q0 q1
        rw [HHL.out] at X1
        rw [HAP.out] at F1
        rw [HAQ.out] at F2
        have X1 := Lib.hid X1
        have F1 := Lib.hid F1
        have F2 := Lib.hid F2
        clear HH HHL HAP HAQ HA HLL HO A4 M4 hbg O4 c4
        go_wp2_with (first | (go_at_call 13; ((with_reducible refine X1.out.mono ?_); rintro e w' ⟨rfl, rfl⟩)) | (go_at_call 14; first | ((with_reducible refine F1.out.mono ?_); rintro e w' ⟨rfl, rfl⟩) | ((with_reducible refine F2.out.mono ?_); rintro e w' ⟨rfl, rfl⟩)))
        go_ret
        exact ⟨rfl, L4.out⟩
end Go.Proofs.YtpbeohonohcgdaaR
