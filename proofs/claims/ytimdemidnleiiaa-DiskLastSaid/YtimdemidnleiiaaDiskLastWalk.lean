/- The walk of 'DiskLast'. -/
import Derived.Test.YtimdemidnleiiaaDiskOpen
set_option linter.unusedVariables false
set_option linter.unusedSimpArgs false
namespace Go.Proofs.Ytimdemidnleiiaa
open Go.RowKit Go.Sort

/-- What an act leaves to be read. -/
inductive LastD (d : Dk) (x : DAc) : Prop
  | big (h : ¬ x.data.size ≤ 8192) (c : codeD x.data = 3) (f : fndB (stepD d x) = fndB d) (r : recD (stepD d x) = recD d)
  | torn (h : x.data.size ≤ 8192) (c : codeD x.data = 0) (t : x.tear = true) (f : fndB (stepD d x) = fndB d) (r : recD (stepD d x) = recD d)
  | written (h : x.data.size ≤ 8192) (c : codeD x.data = 0) (t : x.tear = false) (f : fndB (stepD d x) = true) (r : recD (stepD d x) = x.data)
theorem last_any (d : Dk) (x : DAc) (h : numD d + 1 < 18446744073709551616) : LastD d x := by
  by_cases hs : x.data.size ≤ 8192
  · have hc : codeD x.data = 0 := by unfold codeD; rw [if_pos hs]
    cases ht : x.tear
    · have he : stepD d x = writeD d x.data := by unfold stepD; rw [ht]; rfl
      obtain ⟨h1, h2, _⟩ := write_read hs h
      exact .written hs hc ht (by rw [he]; exact h1) (by rw [he]; exact h2)
    · have he : stepD d x = tearD d x.data x.keep := by unfold stepD; rw [ht]; rfl
      obtain ⟨h1, h2, _⟩ := tear_read d x.data x.keep
      exact .torn hs hc ht (by rw [he]; exact h1) (by rw [he]; exact h2)
  · have hc : codeD x.data = 3 := by unfold codeD; rw [if_neg hs]
    have he : stepD d x = d := (step_one d x).2 (by rw [hc]; decide)
    exact .big hs hc (by rw [he]) (by rw [he])

set_option maxHeartbeats 4000000 in
set_option maxRecDepth 100000 in
theorem full_DiskLast (ao : Option Addr) (len cap : Nat) (l : List DAc) (w : World) (hl : Lst encDA 3 w ao len l) (hle : len ≤ maxLen) (hok : ∀ m ∈ l, m.ok) :
    Calls Try.prog 4 #[.slice ao len cap] w fun e w' => e = .returned (.bool true) ∧ Below w.heap.size w w' := by
  have hlen := hl.size
  have HL := Lib.hid hl
  have HOK := Lib.hid hok
  clear hl hok
  go_enter Try.func4, Try.ntmps4
  go_wp2_with fail
  refine (dawake _).mono ?_
  rintro e w1 ⟨rfl, L1⟩
  go_wp2_with fail
  refine (dfew ao len cap l w1 (HL.out.below L1) hle HOK.out).mono ?_
  rintro e w' ⟨⟨bf, rfl⟩, rfl⟩
  cases bf
  · go_wp2
    go_ret
    exact ⟨rfl, L1⟩
  go_wp2_with fail
  refine (dnew w1).mono ?_
  rintro e w2 ⟨rfl, A2, L2'⟩
  have L2 := L1.trans (L2'.mono L1.size)
  have hs1 := L1.size
  generalize w1.heap.size = g at *
  clear L1 L2'
  unfold maxLen at hle
  go_wp2
  go_loopw [6, 4, 5] (fun i la an wr => ∃ (k : Nat) (d : Dk), k ≤ len ∧ i = .int .i64 k ∧ la = .string (recD d) ∧ an = .bool (fndB d) ∧ numD d ≤ k ∧ DkAt wr g d ∧ Below w.heap.size w wr) (fun i _ _ _ => len - (intOf i).toNat)
  case atStart => exact ⟨0, newD0, Nat.zero_le _, rfl, by rw [rec0], by rw [fnd0], by rw [num0]; exact Nat.le_refl _, A2, L2⟩
  case round =>
    obtain ⟨k, d, hk, rfl, rfl, rfl, hn, A, L⟩ := hrel
    clear A2 L2
    by_cases hlt : k < len
    · have hkl : k < l.length := by omega
      obtain ⟨b, o, rfl, R⟩ := (HL.out.below L).src (by omega)
      have hx := List.getElem?_eq_getElem hkl
      have ha := HOK.out _ (List.getElem_mem hkl)
      generalize l[k] = x at hx ha
      obtain ⟨c0, c1, c2⟩ := dlst_at R k x hx
      have HACT : Hid (Calls Try.prog 10 #[.pointer (some ⟨g, 0, none⟩), .agg #[.string x.data, .bool x.tear, .int .i64 x.keep]] (wr.alloc (.cells #[.string x.data, .bool x.tear, .int .i64 x.keep] 30)) fun e w' => e = .returned (.int .i64 (codeD x.data)) ∧ DkAt w' g (stepD d x) ∧ (wr.alloc (.cells #[.string x.data, .bool x.tear, .int .i64 x.keep] 30)).grownBy w' (some g)) := Lib.hid (dact (A.below ((Grw.refl wr).alloc _).below) x ha)
      have OX := Own.new wr 30 #[.string x.data, .bool x.tear, .int .i64 x.keep]
      have L3 := L.trans (((Grw.refl wr).alloc (.cells #[.string x.data, .bool x.tear, .int .i64 x.keep] 30)).below.mono L.size)
      have hgr : wr.heap.size ≠ g := by have := A.lt; omega
      have HN := Lib.hid (dnum_step x hn (by omega))
      have hlast := last_any d x (by omega)
      have hds := ha.sz
      unfold maxLen at hds
      clear A L R hx ha hkl
      go_upto_region 11 with fail
      generalize wr.alloc (.cells #[.string x.data, .bool x.tear, .int .i64 x.keep] 30) = w3 at *
      generalize wr.heap.size = r at *
      clear c0 c1 c2
      have c0 := OX.at_ 0 _ rfl
      have c1 := OX.at_ 1 _ rfl
      have c2 := OX.at_ 2 _ rfl
      have hg3 : w.heap.size ≤ w3.heap.size := L3.size
      go_upto_region 12 with (go_at_call 10; refine HACT.out.mono ?_; rintro e w4 ⟨rfl, A4, G4⟩)
      have OY := OX.grown G4 (by intro e; cases e; exact hgr rfl)
      have L4 := L3.grown G4 (by omega) (fun k hk => by cases hk; omega)
      have RD := Lib.hid (dread A4)
      have HA4 := Lib.hid A4
      clear c0 c1 c2 OX L3 G4 A4 HACT
      have c0 := OY.at_ 0 _ rfl
      have c1 := OY.at_ 1 _ rfl
      clear OY
      have finish : ∀ w5, Below w4.heap.size w4 w5 → DkAt w5 g (stepD d x) ∧ Below w.heap.size w w5 := fun w5 h => ⟨HA4.out.below h, L4.trans (h.mono L4.size)⟩
      have finish := Lib.hid finish
      clear L4 HA4
      cases hlast
      case big h c f r' =>
        have ht : decide ((8192 : Int) < (x.data.size : Int)) = true := by simp; omega
        rw [c]
        have HE := Lib.hid (And.intro f r')
        rw [f, r'] at RD
        clear h c f r'
        go_wp2_with (go_at_call 13; refine RD.out.mono ?_; rintro e w5 ⟨rfl, L5⟩)
        go_roundw
        case rel => exact ⟨k + 1, stepD d x, by omega, by go_num, by rw [HE.out.2], by rw [HE.out.1], HN.out, (finish.out _ L5).1, (finish.out _ L5).2⟩
        case measure => simp [intOf]; omega
      case torn h c t f r' =>
        have ht : decide ((8192 : Int) < (x.data.size : Int)) = false := by simp; omega
        rw [c]
        rw [t] at c1
        have HE := Lib.hid (And.intro f r')
        rw [f, r'] at RD
        clear h c f r' t
        go_wp2_with (go_at_call 13; refine RD.out.mono ?_; rintro e w5 ⟨rfl, L5⟩)
        go_roundw
        case rel => exact ⟨k + 1, stepD d x, by omega, by go_num, by rw [HE.out.2], by rw [HE.out.1], HN.out, (finish.out _ L5).1, (finish.out _ L5).2⟩
        case measure => simp [intOf]; omega
      case written h c t f r' =>
        have ht : decide ((8192 : Int) < (x.data.size : Int)) = false := by simp; omega
        rw [c]
        rw [t] at c1
        have HE := Lib.hid (And.intro f r')
        rw [f, r'] at RD
        clear h c f r' t
        go_wp2_with (go_at_call 13; refine RD.out.mono ?_; rintro e w5 ⟨rfl, L5⟩)
        go_roundw
        case rel => exact ⟨k + 1, stepD d x, by omega, by go_num, by rw [HE.out.2], by rw [HE.out.1], HN.out, (finish.out _ L5).1, (finish.out _ L5).2⟩
        case measure => simp [intOf]; omega
    · go_wp2
      go_ret
      exact ⟨rfl, L⟩
theorem walk_DiskLast {w : World} (ao : Option Addr) (len cap : Nat) (l : List DAc) (hl : Lst encDA 3 w ao len l ∧ len ≤ maxLen ∧ ∀ m ∈ l, m.ok) :
    Calls Try.prog 4 #[.slice ao len cap] w fun e w' => e = .returned (.bool true) ∧ Below w.heap.size w w' := full_DiskLast ao len cap l w hl.1 hl.2.1 hl.2.2
end Go.Proofs.Ytimdemidnleiiaa
