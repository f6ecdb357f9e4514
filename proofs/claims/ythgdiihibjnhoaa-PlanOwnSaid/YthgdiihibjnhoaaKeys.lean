/- A slice whose elements take k cells each; two cells of the call's own; the greatest key of a list. -/
import Derived.Test.YthgdiihibjnhoaaMsg
import Derived.Deep.SlicePairs
set_option linter.unusedVariables false
set_option linter.unusedSimpArgs false
namespace Go.Proofs.Ythgdiihibjnhoaa
open Go.RowKit Go.Sort

/-- A key's two cells. -/
def encK12 (a : K) : List Value := [.int .u64 a.n, .int .i64 a.p]

/-- Two cells of one block, neither frozen. -/
structure Two (w : World) (g : Nat) (a b : Value) : Prop where
  c0 : w.cell? ⟨g, 0, none⟩ = some a
  c1 : w.cell? ⟨g, 1, none⟩ = some b
  f0 : w.frozen? ⟨g, 0, none⟩ = false
  f1 : w.frozen? ⟨g, 1, none⟩ = false
theorem Two.keep {w w' : World} {g : Nat} {a b : Value} (h : Two w g a b) (hc : ∀ i, w'.cell? ⟨g, i, none⟩ = w.cell? ⟨g, i, none⟩) (hf : ∀ i, w'.frozen? ⟨g, i, none⟩ = w.frozen? ⟨g, i, none⟩) : Two w' g a b :=
  ⟨(hc 0).trans h.c0, (hc 1).trans h.c1, (hf 0).trans h.f0, (hf 1).trans h.f1⟩
theorem Two.below {w w' : World} {g : Nat} {a b : Value} (h : Two w g a b) {B : Nat} (hb : Below B w w') (hg : g < B) : Two w' g a b :=
  h.keep (fun i => hb.cell (p := ⟨g, i, none⟩) hg) (fun i => hb.frozen (p := ⟨g, i, none⟩) hg)
theorem Two.lt {w : World} {g : Nat} {a b : Value} (h : Two w g a b) : g < w.heap.size := World.block_lt_of_cell? (a := ⟨g, 0, none⟩) _ h.c0
theorem Two.alloc {w : World} {g : Nat} {a b : Value} (h : Two w g a b) (o : Obj) : Two (w.alloc o) g a b :=
  h.below ((Below.refl w.heap.size w).alloc (Nat.le_refl _) o) h.lt

theorem lastK_next (l : List K) (k : Nat) (x : K) (hx : l[k]? = some x) : lastK (l.take (k + 1)) = if k = 0 then x else if (lastK (l.take k)).less x then x else lastK (l.take k) := by
  obtain ⟨hlt, rfl⟩ := List.getElem?_eq_some_iff.1 hx
  rw [List.take_succ_eq_append_getElem hlt]
  by_cases h0 : k = 0
  · subst h0; rw [if_pos rfl]; rfl
  · rw [if_neg h0, lastK_snoc]
    intro e
    have := congrArg List.length e
    rw [List.length_take, List.length_nil] at this
    omega
theorem Two.set {w : World} {g : Nat} {a b : Value} (h : Two w g a b) (u v : Value) : Two ((w.setCell ⟨g, 0, none⟩ u).setCell ⟨g, 1, none⟩ v) g u v := by
  obtain ⟨c0, c1, f0, f1⟩ := h
  refine ⟨?_, ?_, by rw [World.frozen?_setCell, World.frozen?_setCell]; exact f0, by rw [World.frozen?_setCell, World.frozen?_setCell]; exact f1⟩
  · rw [World.cell?_setCell_other _ _ _ _ (by intro e; injection e; omega)]
    exact World.cell?_setCell_same' _ _ _ (by rw [c0]; rfl)
  · refine World.cell?_setCell_same' _ _ _ ?_
    rw [World.cell?_setCell_other _ _ _ _ (by intro e; injection e; omega), c1]; rfl
theorem Two.far {w : World} {g : Nat} {a b : Value} (h : Two w g a b) {p : Addr} (hp : p.block ≠ g) (u : Value) : Two (w.setCell p u) g a b :=
  h.keep (fun i => World.cell?_setCell_other _ _ _ _ (by intro e; apply hp; rw [e])) (fun i => World.frozen?_setCell ..)

set_option maxHeartbeats 1000000 in
theorem greatK_any (ao : Option Addr) (len cap : Nat) (l : List K) (w : World) (h : Lst encK12 2 w ao len l) (hl : len ≤ 1099511627776) :
    Calls Try.prog 30 #[.slice ao len cap, .func (.func 7) #[] #[]] w fun e w' => e = .returned (.agg #[.int .u64 (lastK l).n, .int .i64 (lastK l).p]) ∧ Below w.heap.size w w' := by
  have HL := Lib.hid h.size
  have HS := Lib.hid h
  clear h
  go_enter Try.func30, Try.ntmps30
  go_wp2
  go_loopw [10] (fun si wr => ∃ k : Nat, k ≤ len ∧ si = .int .i64 k ∧ Two wr w.heap.size (.int .u64 0) (.int .i64 0) ∧ Two wr (w.heap.size + 1) (.int .u64 (lastK (l.take k)).n) (.int .i64 (lastK (l.take k)).p) ∧ Below w.heap.size w wr)
    (fun si _ => len - (intOf si).toNat)
  case atStart =>
    refine ⟨0, Nat.zero_le _, rfl, ⟨?_, ?_, ?_, ?_⟩, ⟨?_, ?_, ?_, ?_⟩, ((Below.refl _ _).alloc (Nat.le_refl _) _).alloc (by simp) _⟩
    all_goals simp [lastK]
  case round =>
    obtain ⟨k, hk, rfl, R, M, hB⟩ := hrel
    have hgR := R.lt
    have hgM := M.lt
    have HB := Lib.hid hB
    have HR := Lib.hid R
    have HM := Lib.hid M
    by_cases hlt : k < len
    · obtain ⟨b, o, rfl, hr⟩ := HS.out.src (by omega)
      have hlt' : k < l.length := by rw [HL.out]; exact hlt
      obtain ⟨x, hx⟩ : ∃ x, l[k]? = some x := ⟨_, List.getElem?_eq_getElem hlt'⟩
      have e0 : w.cell? ⟨b, o + k * 2, none⟩ = some (.int .u64 x.n) := hr k x hx 0 _ rfl
      have e1 : w.cell? ⟨b, o + k * 2 + 1, none⟩ = some (.int .i64 x.p) := hr k x hx 1 _ rfl
      have c0 := cell_later hB e0
      have c1 := cell_later hB e1
      have HN := Lib.hid (lastK_next l k x hx)
      have m0 := M.c0
      have m1 := M.c1
      have g0 := M.f0
      have g1 := M.f1
      clear e0 e1 hr hx hB R M hlt'
      generalize lastK (l.take k) = m at *
      obtain ⟨xn, xp⟩ := x
      obtain ⟨mn, mp⟩ := m
      simp only at c0 c1 m0 m1
      by_cases hk0 : k = 0
      · have hd : ((k : Int) == 0) = true := by simp; omega
        have HE := Lib.hid (HN.out.trans (if_pos hk0))
        clear HN hk0
        go_wp2
        go_roundw
        case rel =>
          refine ⟨k + 1, by omega, by go_num, ?_, ?_, ?_⟩
          · exact ((HR.out.far (by simp) _).far (by simp) _).alloc _
          · rw [HE.out]; exact (HM.out.set _ _).alloc _
          · exact ((HB.out.setCell (by simp) _).setCell (by simp) _).alloc (by simp; exact HB.out.size) _
        case measure => simp [intOf]; omega
      · have hd : ((k : Int) == 0) = false := by simp; omega
        have HE := Lib.hid (HN.out.trans (if_neg hk0))
        clear HN hk0
        have hc : ∀ W, Calls Try.prog 7 #[.agg #[.int .u64 xn, .int .i64 xp], .agg #[.int .u64 mn, .int .i64 mp]] W fun e w' => e = .returned (.int .i64 (kcmp ⟨xn, xp⟩ ⟨mn, mp⟩)) ∧ Grw W w' := compare_any ⟨xn, xp⟩ ⟨mn, mp⟩
        have hp := kcmp_pos ⟨xn, xp⟩ ⟨mn, mp⟩
        generalize kcmp ⟨xn, xp⟩ ⟨mn, mp⟩ = r at hc hp
        by_cases hr : 0 < r
        · have HF := Lib.hid (HE.out.trans (if_pos (hp.1 hr)))
          clear hp HE
          go_wp2_with fail
          refine (hc _).mono ?_
          rintro e w2 ⟨rfl, hG⟩
          have hG2 := hG.below
          have x0 : w2.cell? ⟨wr.heap.size, 0, none⟩ = some (.int .u64 xn) := cell_later hG2 (by simp)
          have x1 : w2.cell? ⟨wr.heap.size, 1, none⟩ = some (.int .i64 xp) := cell_later hG2 (by simp)
          have M2 := (HM.out.alloc (.cells #[.int .u64 xn, .int .i64 xp] 29)).below hG2 (by simp; omega)
          have HM2 := Lib.hid M2
          have HR2 := Lib.hid ((HR.out.alloc (.cells #[.int .u64 xn, .int .i64 xp] 29)).below hG2 (by simp; omega))
          have HB2 := Lib.hid ((HB.out.alloc HB.out.size (.cells #[.int .u64 xn, .int .i64 xp] 29)).trans (hG2.mono (by have := HB.out.size; simp; omega)))
          obtain ⟨n0, n1, h0, h1⟩ := M2
          clear hG hG2
          go_wp2
          go_roundw
          case rel =>
            refine ⟨k + 1, by omega, by go_num, ?_, ?_, ?_⟩
            · exact (HR2.out.far (by simp) _).far (by simp) _
            · rw [HF.out]; exact HM2.out.set _ _
            · exact (HB2.out.setCell (by simp) _).setCell (by simp) _
          case measure => simp [intOf]; omega
        · have HF := Lib.hid (HE.out.trans (if_neg (fun e => hr (hp.2 e))))
          clear hp HE
          go_wp2_with fail
          refine (hc _).mono ?_
          rintro e w2 ⟨rfl, hG⟩
          have hG2 := hG.below
          have HM2 := Lib.hid ((HM.out.alloc (.cells #[.int .u64 xn, .int .i64 xp] 29)).below hG2 (by simp; omega))
          have HR2 := Lib.hid ((HR.out.alloc (.cells #[.int .u64 xn, .int .i64 xp] 29)).below hG2 (by simp; omega))
          have HB2 := Lib.hid ((HB.out.alloc HB.out.size (.cells #[.int .u64 xn, .int .i64 xp] 29)).trans (hG2.mono (by have := HB.out.size; simp; omega)))
          clear hG hG2
          go_wp2
          go_roundw
          case rel => exact ⟨k + 1, by omega, by go_num, HR2.out, by rw [HF.out]; exact HM2.out, HB2.out⟩
          case measure => simp [intOf]; omega
    · have HK := Lib.hid (show l.take k = l from List.take_of_length_le (by rw [HL.out]; omega))
      obtain ⟨r0, r1, q0, q1⟩ := R
      obtain ⟨m0, m1, g0, g1⟩ := M
      rw [HK.out] at m0 m1
      obtain ⟨z, hz⟩ : ∃ z, z = lastK l := ⟨_, rfl⟩
      rw [← hz] at m0 m1
      obtain ⟨zn, zp⟩ := z
      have HZ := Lib.hid hz
      clear hz
      simp only at m0 m1
      go_wp2
      have T := Two.set HR.out (.int .u64 zn) (.int .i64 zp)
      obtain ⟨t0, t1, _, _⟩ := T
      exact bodyPost_ret (v := .agg #[.int .u64 zn, .int .i64 zp]) (by simp [results, Try.results30, go_sem, t0, t1]) rfl ⟨by rw [← HZ.out], (HB.out.setCell (by simp) _).setCell (by simp) _⟩

set_option maxHeartbeats 1000000 in
theorem last_any (ao : Option Addr) (len cap : Nat) (l : List K) (w : World) (h : Lst encK12 2 w ao len l) (hl : len ≤ 1099511627776) :
    Calls Try.prog 19 #[.slice ao len cap] w fun e w' => e = .returned (.agg #[.int .u64 (lastK l).n, .int .i64 (lastK l).p]) ∧ Below w.heap.size w w' := by
  have HH := Lib.hid h
  clear h
  go_enter Try.func19, Try.ntmps19
  go_wp2_with fail
  refine (greatK_any _ _ _ l _ (HH.out.below ((Below.refl _ _).alloc (Nat.le_refl _) _)) hl).mono ?_
  rintro e w2 ⟨rfl, hB⟩
  have R : Two w2 w.heap.size (.int .u64 0) (.int .i64 0) := ⟨(hB.cell (p := ⟨w.heap.size, 0, none⟩) (by simp)).trans (by simp), (hB.cell (p := ⟨w.heap.size, 1, none⟩) (by simp)).trans (by simp), (hB.frozen (p := ⟨w.heap.size, 0, none⟩) (by simp)).trans (by simp), (hB.frozen (p := ⟨w.heap.size, 1, none⟩) (by simp)).trans (by simp)⟩
  have HR := Lib.hid R
  have HB := Lib.hid (((Below.refl w.heap.size w).alloc (Nat.le_refl _) (.cells #[.int .u64 0, .int .i64 0] 29)).trans (hB.mono (by simp)))
  obtain ⟨r0, r1, q0, q1⟩ := R
  clear hB
  obtain ⟨z, hz⟩ : ∃ z, z = lastK l := ⟨_, rfl⟩
  rw [← hz]
  obtain ⟨zn, zp⟩ := z
  have HZ := Lib.hid hz
  clear hz
  go_wp2
  obtain ⟨t0, t1, _, _⟩ := Two.set HR.out (.int .u64 zn) (.int .i64 zp)
  exact bodyPost_ret (v := .agg #[.int .u64 zn, .int .i64 zp]) (by simp [results, Try.results19, go_sem, t0, t1]) rfl ⟨by rw [← HZ.out], (HB.out.setCell (by simp) _).setCell (by simp) _⟩

end Go.Proofs.Ythgdiihibjnhoaa
