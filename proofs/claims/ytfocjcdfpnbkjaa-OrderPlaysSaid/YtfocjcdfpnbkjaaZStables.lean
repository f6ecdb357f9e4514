/- The library's stable sort, whole: what it leaves is sorted, and what has one key stands as it stood. -/
import Derived.Test.YtfocjcdfpnbkjaaZKeyMaths
import Derived.Test.YtfocjcdfpnbkjaaZSymC
import Derived.Test.YtfocjcdfpnbkjaaZSMaps
set_option linter.unusedVariables false
set_option linter.unusedSimpArgs false
namespace Go.Proofs.Ytfocjcdfpnbkjaa
open Go.Shelf Go.RowKit Go.Lib Go.Sort

theorem sym_msgs (blk off len cap a m b : Nat) (d0 : Array Mg) (w0 w : World) (X A B Z : List Mg) (R : RowK encG 6 w0 blk off d0) (hs : d0.size = len) (S : SWK encG 6 w0 blk off (X ++ (A ++ (B ++ Z))).toArray w) (hL : (X ++ (A ++ (B ++ Z))).length = len)
    (hX : X.length = a) (hA : a + A.length = m) (hB : m + B.length = b) (hA0 : 0 < A.length) (hB0 : 0 < B.length) (hsA : Srt Mg.key A) (hsB : Srt Mg.key B) (hsz : len < 4611686018427387904) :
    Calls Try.prog 149 #[.slice (some ⟨blk, off, none⟩) len cap, .int .i64 a, .int .i64 m, .int .i64 b, .func (.func 135) #[] #[]] w fun e w' => e = .returned (.tuple #[]) ∧ ∃ M, IsSrt Mg.key (A ++ B) M ∧ SWK encG 6 w0 blk off (X ++ (M ++ Z)).toArray w' :=
  sym_any 6 fam encG Mg.key (fun x y => kcmp x.key y.key) hcfM 135 #[] egM blk off len cap d0 w0 (cmpLays blk off _ w0) R hs hsz _ a m b X A B Z w (Nat.le_refl _) S hL hX hA hB hA0 hB0 hsA hsB

/-- What is known between two passes: the row, the runs in it. -/
structure Pass (blk off len : Nat) (w0 : World) (L : List Mg) (n : Nat) (L1 : List Mg) (w : World) : Prop where
  swk : SWK encG 6 w0 blk off L1.toArray w
  size : L1.length = len
  fil : Fil Mg.key L L1
  runs : Runs Mg.key n L1
/-- What is known amid a pass: what is done, what is to do. -/
structure Amid (blk off len : Nat) (w0 : World) (L : List Mg) (n n1 a : Nat) (D T : List Mg) (w : World) : Prop where
  swk : SWK encG 6 w0 blk off (D ++ T).toArray w
  size : (D ++ T).length = len
  at_ : D.length = a
  fil : Fil Mg.key L (D ++ T)
  done : Done Mg.key n1 D
  todo : Runs Mg.key n T

theorem Amid.step {blk off len : Nat} {w0 : World} {L : List Mg} {n n1 a b : Nat} {D A B T M : List Mg} {w w' : World} (h : Amid blk off len w0 L n n1 a D (A ++ (B ++ T)) w) (hM : IsSrt Mg.key (A ++ B) M) (hS : SWK encG 6 w0 blk off (D ++ (M ++ T)).toArray w')
    (hl : (A ++ B).length = n1) (hb : a + n1 = b) (ht : Runs Mg.key n T) : Amid blk off len w0 L n n1 b (D ++ M) T w' := by
  have hml : M.length = n1 := by rw [hM.fil.length, hl]
  refine ⟨by rw [List.append_assoc]; exact hS, ?_, by rw [List.length_append, h.at_, hml, hb], ?_, h.done.snoc hM.srt hml, ht⟩
  · have h1 := h.size
    simp only [List.length_append] at h1 hl ⊢
    omega
  · refine h.fil.trans ?_
    rw [List.append_assoc]
    refine (Fil.refl D).app ?_
    rw [← List.append_assoc]
    exact hM.fil.app (Fil.refl T)

set_option maxHeartbeats 8000000 in
set_option maxRecDepth 100000 in
theorem stable_all (len : Nat) (hl : len ≤ 1048576) : StableAt len := by
  intro blk off cap d0 w0 w L R hs S hL
  have HR := Lib.hid R
  have HS := Lib.hid hs
  have A0 : Hid (Amid blk off len w0 L 0 20 0 [] L w ∨ True) := Lib.hid (.inr trivial)
  have S0 : Aside (SWK encG 6 w0 blk off L.toArray w) := S
  have HL := Lib.hid hL
  clear S R hs hL A0
  go_enter Try.func143, Try.ntmps143
  go_wp2_with fail
  go_loopg [7, 8] (len + 20) (fun kx s7 s8 wr => ∃ (a : Nat) (D T : List Mg), s7 = .int .i64 a ∧ s8 = .int .i64 (a + 20 : Nat) ∧ a ≤ len ∧ len + 20 - a ≤ kx ∧
    Hid (SWK encG 6 w0 blk off (D ++ T).toArray wr ∧ (D ++ T).length = len ∧ D.length = a ∧ Fil Mg.key L (D ++ T) ∧ Done Mg.key 20 D))
  case atStart => exact ⟨0, [], L, rfl, rfl, Nat.zero_le _, Nat.le_refl _, Lib.hid ⟨S0, HL.out, rfl, Fil.refl _, Done.nil _⟩⟩
  case round =>
    clear S0
    obtain ⟨a, D, T, rfl, rfl, hal, hkx, H⟩ := hrel
    by_cases hlt : a + 20 ≤ len
    · have hz : ((a + 20 : Nat) : Int) ≤ (len : Int) := by omega
      obtain ⟨A, T1, hT, hAl⟩ : ∃ A T1, T = A ++ T1 ∧ A.length = 20 := ⟨T.take 20, T.drop 20, (List.take_append_drop _ _).symm, by
        have h1 := H.out.2.1; have h2 := H.out.2.2.1
        rw [List.length_append] at h1
        rw [List.length_take]; omega⟩
      subst hT
      have HA := Lib.hid hAl
      have ho : ((a + 20 : Nat) : Int) + 20 = ((a + 20 + 20 : Nat) : Int) := by omega
      have HO := Lib.hid ho
      have hb1 : a + 20 ≤ 1048576 := by omega
      clear hAl ho
      obtain ⟨b, hb⟩ : ∃ b, b = a + 20 := ⟨_, rfl⟩
      rw [← hb] at hz hb1 HO ⊢
      have HBB := Lib.hid hb
      clear hb
      go_wp2_with fail
      refine (ins_any blk off len cap a b d0 w0 _ D A T1 HR.out HS.out H.out.1 H.out.2.1 H.out.2.2.1 (by rw [HA.out, HBB.out]) (by omega)).mono ?_
      rintro e w1 ⟨rfl, M, hM, S2⟩
      have H2 : Hid (SWK encG 6 w0 blk off ((D ++ M) ++ T1).toArray w1 ∧ ((D ++ M) ++ T1).length = len ∧ (D ++ M).length = b ∧ Fil Mg.key L ((D ++ M) ++ T1) ∧ Done Mg.key 20 (D ++ M)) := Lib.hid (by
        obtain ⟨h1, h2, h3, h4, h5⟩ := H.out
        have hml : M.length = 20 := by rw [hM.fil.length, HA.out]
        refine ⟨by rw [List.append_assoc]; exact S2, ?_, by rw [List.length_append, h3, hml, HBB.out], ?_, h5.snoc hM.srt hml⟩
        · have h6 := HA.out
          simp only [List.length_append] at h2 ⊢
          omega
        · refine h4.trans ?_
          rw [List.append_assoc]
          exact (Fil.refl D).app (hM.fil.app (Fil.refl T1)))
      clear S2 hM H
      go_wp2_with fail
      rw [HO.out]
      go_roundg (len + 20 - b)
      case measure => have := HBB.out; omega
      case rel => exact ⟨b, D ++ M, T1, rfl, by rw [HBB.out], by omega, Nat.le_refl _, H2⟩
    · have hz : ¬ ((a + 20 : Nat) : Int) ≤ (len : Int) := by omega
      have HAL := Lib.hid hlt
      obtain ⟨b, hb⟩ : ∃ b, b = a + 20 := ⟨_, rfl⟩
      rw [← hb] at hz ⊢
      clear hb hlt
      go_wp2_with fail
      refine (ins_any blk off len cap a len d0 w0 _ D T [] HR.out HS.out (by rw [List.append_nil]; exact H.out.1) (by rw [List.append_nil]; exact H.out.2.1) H.out.2.2.1 (by
        have h1 := H.out.2.1; have h2 := H.out.2.2.1; rw [List.length_append] at h1; omega) (by omega)).mono ?_
      rintro e w1 ⟨rfl, M, hM, S2⟩
      have P : Hid (Pass blk off len w0 L 20 (D ++ M) w1) := Lib.hid (by
        obtain ⟨h1, h2, h3, h4, h5⟩ := H.out
        rw [List.append_nil] at S2
        have hml : M.length = T.length := hM.fil.length
        have h6 := HAL.out
        rw [List.length_append] at h2
        exact ⟨S2, by rw [List.length_append]; omega, h4.trans ((Fil.refl D).app hM.fil), h5 _ (.last M hM.srt (by omega))⟩)
      clear S2 hM H hkx hal hz
      go_wp2_with fail
      go_loopg [6, 7, 8, 9] len (fun kx s6 s7 s8 s9 w2 => ∃ (n : Nat) (L1 : List Mg), s6 = .int .i64 n ∧ 20 ≤ n ∧ n ≤ len + len + 20 ∧ len - n ≤ kx ∧ Hid (Pass blk off len w0 L n L1 w2))
      case atStart => exact ⟨20, D ++ M, rfl, Nat.le_refl _, by omega, by omega, P⟩
      case round =>
        clear P
        obtain ⟨n, L1, rfl, hn1, hn2, hkx, P⟩ := hrel
        by_cases hnl : n < len
        · have hnz : (n : Int) < (len : Int) := by omega
          have A1 : Hid (Amid blk off len w0 L n (2 * n) 0 [] L1 wr) := Lib.hid ⟨P.out.swk, P.out.size, rfl, P.out.fil, Done.nil _, P.out.runs⟩
          have h2n : 2 * (n : Int) = ((2 * n : Nat) : Int) := by omega
          have H2N := Lib.hid h2n
          clear P h2n
          go_wp2_with fail
          rw [H2N.out]
          obtain ⟨nn, hnn⟩ : ∃ nn, nn = 2 * n := ⟨_, rfl⟩
          have HNN := Lib.hid hnn
          rw [← hnn] at A1 H2N ⊢
          have hnn1 : nn ≤ 2097152 + 2097152 := by omega
          clear hnn
          go_loopg [7, 8] (len + nn) (fun kx s7 s8 w2 => ∃ (a : Nat) (D T : List Mg), s7 = .int .i64 a ∧ s8 = .int .i64 (a + nn : Nat) ∧ a ≤ len ∧ len + nn - a ≤ kx ∧ Hid (Amid blk off len w0 L n nn a D T w2))
          case atStart => exact ⟨0, [], L1, rfl, by rw [Nat.zero_add], Nat.zero_le _, Nat.le_refl _, A1⟩
          case round =>
            clear A1
            obtain ⟨a, D, T, rfl, rfl, hal, hkx2, H⟩ := hrel
            obtain ⟨m, hm⟩ : ∃ m, m = a + n := ⟨_, rfl⟩
            have hmz : (a : Int) + (n : Int) = (m : Int) := by omega
            have HMZ := Lib.hid hmz
            have HM := Lib.hid hm
            have hm2 : m ≤ 4194304 := by omega
            clear hm hmz
            by_cases hlt : a + nn ≤ len
            · obtain ⟨b, hb⟩ : ∃ b, b = a + nn := ⟨_, rfl⟩
              have hz : (b : Int) ≤ (len : Int) := by omega
              have HBB := Lib.hid hb
              have hbl : b ≤ len := by omega
              have ho : (b : Int) + (nn : Int) = ((b + nn : Nat) : Int) := by omega
              have HO := Lib.hid ho
              have hT := H.out.todo.two (by omega) (by
                have h1 := H.out.size; have h2 := H.out.at_; have h3 := HNN.out
                rw [List.length_append] at h1; omega)
              obtain ⟨B1, C1, T1, hTe, hB1, hB1l, hC1, hC1l, hT1⟩ := hT
              subst hTe
              have HB1 := Lib.hid (And.intro hB1 (And.intro hB1l (And.intro hC1 (And.intro hC1l hT1))))
              rw [← hb]
              clear hb ho hB1 hB1l hC1 hC1l hT1 hlt
              go_wp2_with fail
              rw [HMZ.out]
              refine (sym_msgs blk off len cap a m b d0 w0 _ D B1 C1 T1 HR.out HS.out H.out.swk H.out.size H.out.at_ (by rw [HB1.out.2.1, HM.out]) (by rw [HB1.out.2.2.2.1, HM.out, HBB.out, HNN.out]; omega) (by rw [HB1.out.2.1]; omega) (by rw [HB1.out.2.2.2.1]; omega) HB1.out.1 HB1.out.2.2.1 (by omega)).mono ?_
              rintro e w2 ⟨rfl, M2, hM2, S2⟩
              have H2 : Hid (Amid blk off len w0 L n nn b (D ++ M2) T1 w2) := Lib.hid (H.out.step hM2 S2 (by rw [List.length_append, HB1.out.2.1, HB1.out.2.2.2.1, HNN.out]; omega) HBB.out.symm HB1.out.2.2.2.2)
              clear hM2 S2 H
              go_wp2_with fail
              rw [H2N.out, HO.out]
              go_roundg (len + nn - b)
              case measure => have := HBB.out; have := HNN.out; omega
              case rel => exact ⟨b, D ++ M2, T1, rfl, rfl, hbl, Nat.le_refl _, H2⟩
            · obtain ⟨b, hb⟩ : ∃ b, b = a + nn := ⟨_, rfl⟩
              have hz : ¬ (b : Int) ≤ (len : Int) := by omega
              have HLT := Lib.hid hlt
              rw [← hb]
              have hbb : b ≤ 16777216 := by omega
              have h3n : (n : Int) * 2 = (nn : Int) := by have := HNN.out; omega
              have H3N := Lib.hid h3n
              clear hb hlt h3n
              by_cases hml : m < len
              · have hmlz : (m : Int) < (len : Int) := by omega
                have hmlz2 : (a : Int) + (n : Int) < (len : Int) := by rw [HMZ.out]; exact hmlz
                have hT := H.out.todo.cut (by
                  have h1 := H.out.size; have h2 := H.out.at_; have h3 := HM.out
                  rw [List.length_append] at h1; omega)
                obtain ⟨B1, T1, hTe, hB1, hB1l, hT1⟩ := hT
                subst hTe
                have hT1l : m + T1.length = len := by
                  have h1 := H.out.size; have h2 := H.out.at_; have h3 := HM.out
                  simp only [List.length_append] at h1; omega
                have HB1 := Lib.hid (And.intro hB1 (And.intro hB1l (And.intro (hT1.short (by have := HLT.out; have := HNN.out; have := HM.out; omega)) hT1l)))
                clear hB1 hB1l hT1 hT1l
                go_wp2_with fail
                (try rw [HMZ.out])
                (try go_wp2_with fail)
                refine (sym_msgs blk off len cap a m len d0 w0 _ D B1 T1 [] HR.out HS.out (by rw [List.append_nil]; exact H.out.swk) (by rw [List.append_nil]; exact H.out.size) H.out.at_ (by rw [HB1.out.2.1, HM.out]) HB1.out.2.2.2 (by rw [HB1.out.2.1]; omega) (by have := HB1.out.2.2.2; omega) HB1.out.1 HB1.out.2.2.1 (by omega)).mono ?_
                rintro e w2 ⟨rfl, M2, hM2, S2⟩
                have P2 : Hid (Pass blk off len w0 L nn (D ++ M2) w2) := Lib.hid (by
                  have hl2 := hM2.fil.length
                  have h1 := H.out.size
                  rw [List.append_nil] at S2
                  refine ⟨S2, by rw [List.length_append, hl2, ← List.length_append]; exact h1, H.out.fil.trans ((Fil.refl D).app hM2.fil), H.out.done _ (.last M2 hM2.srt ?_)⟩
                  have h2 := H.out.at_; have h3 := HLT.out
                  rw [List.length_append] at h1
                  omega)
                clear hM2 S2 H
                go_wp2_with fail
                rw [H3N.out]
                go_roundg (len - nn)
                case measure => have := HNN.out; omega
                case rel => exact ⟨nn, D ++ M2, rfl, by have := HNN.out; omega, by have := HNN.out; omega, Nat.le_refl _, P2⟩
              · have hmlz : ¬ (m : Int) < (len : Int) := by omega
                have hmlz2 : ¬ (a : Int) + (n : Int) < (len : Int) := by rw [HMZ.out]; exact hmlz
                have P2 : Hid (Pass blk off len w0 L nn (D ++ T) wr) := Lib.hid (by
                  have h1 := H.out.size; have h2 := H.out.at_; have h3 := HM.out; have h4 := HNN.out
                  refine ⟨H.out.swk, h1, H.out.fil, H.out.done _ (.last T (H.out.todo.short ?_) ?_)⟩ <;> (rw [List.length_append] at h1; omega))
                clear H
                go_wp2_with fail
                rw [H3N.out]
                go_roundg (len - nn)
                case measure => have := HNN.out; omega
                case rel => exact ⟨nn, D ++ T, rfl, by have := HNN.out; omega, by have := HNN.out; omega, Nat.le_refl _, P2⟩
        · have hnz : ¬ (n : Int) < (len : Int) := by omega
          go_wp2_with fail
          go_end0
          exact ⟨rfl, L1, ⟨P.out.runs.short (by rw [P.out.size]; omega), P.out.fil⟩, P.out.swk⟩
end Go.Proofs.Ytfocjcdfpnbkjaa

/- Above. -/
set_option linter.unusedVariables false
set_option linter.unusedSimpArgs false
namespace Go.Proofs.Ytfocjcdfpnbkjaa
open Go.RowKit Go.Sort

theorem slots_size : (Try.prog.info? 184).map (·.size) = some 64 := by kernel_rfl
/-- An array's element, read. -/
theorem index_slots (f : Nat → Sl) (k : Nat) (hk : k < 64) (w : World) : (Instr.index 184 (.agg (rowF Sl.v f).toArray) (.int .i64 (k : Int))).run Try.prog w = .ok (.slice (f k).a (f k).n (f k).c) w := by
  have hk' : 0 ≤ (k : Int) ∧ (k : Int) < ((64 : Nat) : Int) := by omega
  have ha : (isAgg 29).run Try.prog w = .ok false w := by kernel_rfl
  have hs : (sizeOf 29).run Try.prog w = .ok 1 w := by kernel_rfl
  have hx : (rowF Sl.v f)[k]? = some (.slice (f k).a (f k).n (f k).c) := rowF_at Sl.v f k hk
  simp only [Instr.index, asIntOf, Sem.run_bind, Sem.run_pure, Result.andThen_ok, run_underlying Try.underlying184]
  rw [if_pos hk']
  simp [Sem.run_bind, Sem.run_pure, Result.andThen_ok, hs, part, ha, Int.toNat_natCast, hx]
theorem step_index12 {ops : Array Oper} {rest : List Oper} {o : Oper} {a : Act} {w : World} {Q : Exit → Act → World → Prop} (hgd : o.guard = none) (ty : TypeId) (x y : Operand) (ho : o.op = .index ty x y)
    (vx vy v : Value) (hx : a.eval x = vx) (hy : a.eval y = vy) (hb : (Instr.index ty vx vy).run Try.prog w = .ok v w)
    (h : wpList Try.prog ops Q rest (a.put o.dst v) w) : wpList Try.prog ops Q (o :: rest) a w :=
  wpList_plain hgd fun _ hK => by
    unfold Oper.wp execOp
    simp only [ho, hx, hy, Sem.run_bind, Sem.run_pure, Result.andThen_ok, hb]
    exact hK _ _ h

/-- Those behind the key, of the processes below n. -/
def catF (X : Nat → List Mg) (kk : K) : Nat → List Mg
  | 0 => []
  | k + 1 => catF X kk k ++ (X k).filter fun x => kk.less x.key
theorem catF_len (X : Nat → List Mg) (kk : K) (N : Nat) (h : ∀ p, p < 64 → (X p).length ≤ N) : ∀ k, k ≤ 64 → (catF X kk k).length ≤ k * N
  | 0, _ => Nat.zero_le _
  | k + 1, hk => by
    have h1 := catF_len X kk N h k (by omega)
    have h2 := h k (by omega)
    have h3 := List.length_filter_le (fun x => kk.less x.key) (X k)
    unfold catF
    rw [List.length_append, Nat.add_mul, Nat.one_mul]
    omega
theorem catF_mem (X : Nat → List Mg) (kk : K) (x : Mg) : ∀ k, x ∈ catF X kk k → ∃ p, p < k ∧ x ∈ X p ∧ kk.less x.key = true
  | 0, h => by simp [catF] at h
  | k + 1, h => by
    unfold catF at h
    rcases List.mem_append.1 h with h | h
    · obtain ⟨p, hp, h⟩ := catF_mem X kk x k h
      exact ⟨p, by omega, h⟩
    · exact ⟨k, by omega, (List.mem_filter.1 h).1, by simpa using (List.mem_filter.1 h).2⟩
theorem filter_strip (l : List Mg) (kk : K) : (l.filter fun x => kk.less x.key).map strip = (l.map strip).filter fun x => kk.less x.key := by
  rw [List.filter_map]; rfl
theorem catF_strip (X Y : Nat → List Mg) (kk : K) (h : ∀ p, p < 64 → (X p).map strip = (Y p).map strip) : ∀ k, k ≤ 64 → (catF X kk k).map strip = (catF Y kk k).map strip
  | 0, _ => rfl
  | k + 1, hk => by
    unfold catF
    rw [List.map_append, List.map_append, catF_strip X Y kk h k (by omega), filter_strip, filter_strip, h k (by omega)]
theorem isSrt_strip {l l' : List Mg} (h : IsSrt Mg.key l l') : IsSrt Mg.key (l.map strip) (l'.map strip) := by
  refine ⟨?_, fun c => ?_⟩
  · unfold Srt
    rw [List.pairwise_map]
    exact h.srt
  · rw [List.filter_map, List.filter_map]
    exact congrArg _ (h.fil c)
/-- What Above answers: O sorted. -/
def AboveSaid (w : World) (O : List Mg) (e : Ending) (w' : World) : Prop := ∃ s Y, e = .returned (.slice s.a s.n s.c) ∧ OutR w' w.heap.size s Y ∧ IsSrt Mg.key (O.map strip) (Y.map strip) ∧ Below w.heap.size w w'

/-- Amid the loops. -/
structure AbSt (w wr : World) (O : List Mg) (s : Sl) : Prop where
  bel : Below w.heap.size w wr
  slot : SlotAt wr s O
  new : ∀ x, s.a = some x → w.heap.size ≤ x.block
theorem AbSt.later {w wr w' : World} {O : List Mg} {s : Sl} (h : AbSt w wr O s) (hb : Below wr.heap.size wr w') : AbSt w w' O s :=
  ⟨h.bel.trans (hb.mono h.bel.size), h.slot.below hb, h.new⟩
theorem AbSt.more {w wr w' : World} {O : List Mg} {s s' : Sl} {x : Mg} (h : AbSt w wr O s) (hs : SlotAt w' s' (O ++ [x])) (hg : wr.grownBy w' s.v.ownBlock) (hl : ∃ y, s'.a = some y ∧ ((∃ z, s.a = some z ∧ z.block = y.block) ∨ wr.heap.size ≤ y.block)) : AbSt w w' (O ++ [x]) s' := by
  have hsz := h.bel.size
  refine ⟨h.bel.grown hg hsz (fun k hk => ?_), hs, fun y hy => ?_⟩
  · cases hs2 : s.a with
    | none => simp [Sl.v, Value.ownBlock, hs2] at hk
    | some z =>
      simp [Sl.v, Value.ownBlock, hs2] at hk
      rw [← hk]; exact h.new z hs2
  · obtain ⟨y', e, h1⟩ := hl
    rw [hy] at e; cases e
    rcases h1 with ⟨z, hz, e2⟩ | h1
    · rw [← e2]; exact h.new z hz
    · omega
section
variable {w : World} {F : Nat → Prop} {g N : Nat} {lo : Nat → Nat} {sl : Nat → Sl} {X : Nat → List Mg}
set_option maxHeartbeats 8000000 in
set_option maxRecDepth 100000 in
theorem habove (h : HAt w F g N lo sl X) (hN : N ≤ 1000) (kk : K) :
    Calls Try.prog 73 #[.pointer (some ⟨g, 0, none⟩), .agg #[.int .u64 kk.n, .int .i64 kk.p]] w (AboveSaid w (catF X kk 64)) := by
  obtain ⟨kn, kp⟩ := kk
  simp only
  have mixed : Try.prog.follows .mixedOrders = true := by kernel_rfl
  have hbX : ∀ p, p < 64 → (X p).length ≤ N := fun p hp => by have := h.bnd p hp; omega
  have HBX := Lib.hid hbX
  have HCL := Lib.hid (catF_len X ⟨kn, kp⟩ N hbX)
  have LB := ((Grw.refl w).alloc (.cells #[.int .u64 kn, .int .i64 kp] 39)).below
  have H1 := h.below LB
  have HR := Lib.hid H1.rangeS
  have HRL := Lib.hid (rowF_length Sl.v sl)
  have HIX : Hid (∀ k : Nat, k < 64 → ∀ W, (Instr.index 184 (.agg (rowF Sl.v sl).toArray) (.int .i64 (k : Int))).run Try.prog W = .ok (.slice (sl k).a (sl k).n (sl k).c) W) := Lib.hid fun k hk W => index_slots sl k hk W
  have hk0 : (w.alloc (.cells #[.int .u64 kn, .int .i64 kp] 39)).cell? ⟨w.heap.size, 0, none⟩ = some (.int .u64 kn) := by simp
  have hk1 : (w.alloc (.cells #[.int .u64 kn, .int .i64 kp] 39)).cell? ⟨w.heap.size, 1, none⟩ = some (.int .i64 kp) := by simp
  have hsz : (w.alloc (.cells #[.int .u64 kn, .int .i64 kp] 39)).heap.size = w.heap.size + 1 := by simp
  have HH := Lib.hid H1
  have HLB := Lib.hid LB
  clear h H1 LB hbX
  generalize rowF Sl.v sl = C at *
  go_enter Try.func73, Try.ntmps73
  go_upto_region 1 with fail
  generalize w.alloc (.cells #[.int .u64 kn, .int .i64 kp] 39) = W at *
  generalize hkb : w.heap.size = kb at *
  have HKB := Lib.hid hkb
  clear hkb
  have hkb1 : kb < W.heap.size := by omega
  go_wp2_with (with_reducible refine wpList_load_mid rfl 184 (.tmp 12) rfl g 64 rfl C _ HR.out Try.underlying184 rfl (by rw [HRL.out]; exact slots_size) ?_)
  clear HR HRL
  have A0 : Hid (AbSt W W [] slNil) := Lib.hid ⟨Below.refl _ _, SlotAt.nil W, fun x hx => by simp [slNil] at hx⟩
  go_loopw [5, 14] (fun so si wr => ∃ (k : Nat) (s : Sl), k ≤ 64 ∧ si = .int .i64 k ∧ so = .slice s.a s.n s.c ∧ Hid (AbSt W wr (catF X ⟨kn, kp⟩ k) s)) (fun _ si _ => 64 - (intOf si).toNat)
  case atStart => exact ⟨0, slNil, Nat.zero_le _, rfl, rfl, A0⟩
  case round =>
    obtain ⟨k, s, hk, rfl, rfl, HS⟩ := hrel
    by_cases hlt : k < 64
    · have hix := HIX.out k hlt
      obtain ⟨sa, sn, sc, hsl⟩ : ∃ sa sn sc, sl k = ⟨sa, sn, sc⟩ := ⟨_, _, _, rfl⟩
      rw [hsl] at hix
      simp only at hix
      have HX := Lib.hid hix
      have HSL := Lib.hid hsl
      clear hix hsl
      go_wp2_with (refine step_index12 rfl _ _ _ rfl _ _ _ rfl rfl (HX.out _) ?_)
      clear HX
      have hS0 : Hid (AbSt W wr (catF X ⟨kn, kp⟩ k ++ ((X k).take 0).filter fun x => K.less ⟨kn, kp⟩ x.key) s) := Lib.hid (by rw [List.take_zero, List.filter_nil, List.append_nil]; exact HS.out)
      obtain ⟨w5, hw5⟩ : ∃ w5, w5 = wr := ⟨_, rfl⟩
      rw [← hw5] at HS
      go_loopw [5, 19] (fun so si wr => ∃ (i : Nat) (s : Sl), i ≤ sn ∧ si = .int .i64 i ∧ so = .slice s.a s.n s.c ∧ Hid (AbSt W wr (catF X ⟨kn, kp⟩ k ++ ((X k).take i).filter fun x => K.less ⟨kn, kp⟩ x.key) s)) (fun _ si _ => sn - (intOf si).toNat)
      case atStart => exact ⟨0, s, Nat.zero_le _, rfl, rfl, hS0⟩
      case round =>
        obtain ⟨i, s, hi, rfl, rfl, HS⟩ := hrel
        by_cases hlt2 : i < sn
        · have hSlot := HH.out.slot k hlt
          have hle := hSlot.len
          rw [HSL.out] at hSlot hle
          rcases hSlot with ⟨e0, _⟩ | ⟨b, off, hsa, hR⟩
          · exfalso; injection e0 with _ e0 _; omega
          simp only at hsa hle
          have hi9 : i < 1000 := by have := HBX.out k hlt; omega
          obtain ⟨x, hx⟩ : ∃ x, (X k)[i]? = some x := ⟨_, List.getElem?_eq_getElem (by omega)⟩
          have hcell : ∀ j v, (encG x)[j]? = some v → wr.cell? ⟨b, off + i * 6 + j, none⟩ = some v := fun j v hv => by
            have hj : j < 6 := by have := (List.getElem?_eq_some_iff.1 hv).1; rwa [encG_length] at this
            refine cell_later HS.out.bel ?_
            rw [Nat.add_assoc]
            exact hR.cell _ _ (by rw [flat_at encG 6 encG_length (X k) i x hx j hj]; exact hv)
          have c0 := hcell 0 _ rfl
          have c1 := hcell 1 _ rfl
          have c2 := hcell 2 _ rfl
          have c3 := hcell 3 _ rfl
          have c4 := hcell 4 _ rfl
          have c5 := hcell 5 _ rfl
          rw [Nat.add_zero] at c0
          have HTK : Hid ((X k).take (i + 1) = (X k).take i ++ [x]) := Lib.hid (by rw [List.take_succ_eq_append_getElem (by omega), (List.getElem?_eq_some_iff.1 hx).2])
          have hlen : (catF X ⟨kn, kp⟩ k ++ ((X k).take i).filter fun x => K.less ⟨kn, kp⟩ x.key).length ≤ 100000 := by
            have h1 := HCL.out k (by omega)
            have h2 := List.length_filter_le (fun x => K.less ⟨kn, kp⟩ x.key) ((X k).take i)
            have h3 := HBX.out k hlt
            have h4 : k * N ≤ 64 * 1000 := Nat.mul_le_mul (by omega) hN
            rw [List.length_take] at h2
            rw [List.length_append]
            omega
          have hsn : s.n ≤ 100000 := by rw [← HS.out.slot.len]; exact hlen
          have hkk0 : wr.cell? ⟨kb, 0, none⟩ = some (.int .u64 kn) := cell_later HS.out.bel hk0
          have hkk1 : wr.cell? ⟨kb, 1, none⟩ = some (.int .i64 kp) := cell_later HS.out.bel hk1
          have hkbr : kb < wr.heap.size := Nat.lt_of_lt_of_le hkb1 HS.out.bel.size
          have HKC : Hid (kcmp x.key ⟨kn, kp⟩ = kcmp ⟨x.s, x.f⟩ ⟨kn, kp⟩) := Lib.hid rfl
          have HLS : Hid (K.less ⟨kn, kp⟩ x.key = decide (0 < kcmp ⟨x.s, x.f⟩ ⟨kn, kp⟩)) := Lib.hid (by
            have := kcmp_pos x.key ⟨kn, kp⟩
            cases h : K.less ⟨kn, kp⟩ x.key with
            | true => exact (decide_eq_true (this.2 h)).symm
            | false => exact (decide_eq_false (fun e => by rw [this.1 e] at h; cases h)).symm)
          have ho : ∀ (f q s v : Int) (a : Option Addr) (dl dc : Nat) (text : ByteArray) W, Calls Try.prog 31 #[.agg #[.int .i64 f, .int .u32 q, .int .u64 s, .int .i64 v, .slice a dl dc, .string text]] W fun e w' => e = .returned (.agg #[.int .u64 s, .int .i64 f]) ∧ Grw W w' :=
            fun f q s v a dl dc text W => of12_any ⟨f, q, s, v, a, dl, dc, [], text⟩ W
          have hcm : ∀ W, Calls Try.prog 30 #[.agg #[.int .u64 x.s, .int .i64 x.f], .agg #[.int .u64 kn, .int .i64 kp]] W fun e w' => e = .returned (.int .i64 (kcmp ⟨x.s, x.f⟩ ⟨kn, kp⟩)) ∧ Grw W w' := compare_any ⟨x.s, x.f⟩ ⟨kn, kp⟩
          have hkbd := kcmp_bd ⟨x.s, x.f⟩ ⟨kn, kp⟩
          generalize kcmp ⟨x.s, x.f⟩ ⟨kn, kp⟩ = r at *
          subst hsa
          have HXX : Hid (∃ y, y = x) := Lib.hid ⟨x, rfl⟩
          clear hcell hR hx hle hlen HKC
          have HM5 := MgB.new wr x
          have LW := ((Grw.refl wr).alloc (.cells #[.int .i64 x.f, .int .u32 x.q, .int .u64 x.s, .int .i64 x.v, .slice x.a x.dl x.dc, .string x.text] 47)).below
          have HS5 := Lib.hid (HS.out.later LW)
          go_upto_region 8 with fail
          have hb5 : wr.heap.size < (wr.alloc (.cells #[.int .i64 x.f, .int .u32 x.q, .int .u64 x.s, .int .i64 x.v, .slice x.a x.dl x.dc, .string x.text] 47)).heap.size := by simp
          have a0 := fun n os => cell_grown (n := n) (os := os) hb5 (HM5.own.at_ 0 _ rfl)
          have a1 := fun n os => cell_grown (n := n) (os := os) hb5 (HM5.own.at_ 1 _ rfl)
          have a2 := fun n os => cell_grown (n := n) (os := os) hb5 (HM5.own.at_ 2 _ rfl)
          have a3 := fun n os => cell_grown (n := n) (os := os) hb5 (HM5.own.at_ 3 _ rfl)
          have a4 := fun n os => cell_grown (n := n) (os := os) hb5 (HM5.own.at_ 4 _ rfl)
          have a5 := fun n os => cell_grown (n := n) (os := os) hb5 (HM5.own.at_ 5 _ rfl)
          have b0 := fun n os => cell_grown (n := n) (os := os) (show kb < (wr.alloc (.cells #[.int .i64 x.f, .int .u32 x.q, .int .u64 x.s, .int .i64 x.v, .slice x.a x.dl x.dc, .string x.text] 47)).heap.size by simp; omega) (cell_later LW hkk0)
          have b1 := fun n os => cell_grown (n := n) (os := os) (show kb < (wr.alloc (.cells #[.int .i64 x.f, .int .u32 x.q, .int .u64 x.s, .int .i64 x.v, .slice x.a x.dl x.dc, .string x.text] 47)).heap.size by simp; omega) (cell_later LW hkk1)
          clear HM5 LW hkk0 hkk1 c0 c1 c2 c3 c4 c5 HS
          generalize hW5 : wr.alloc (.cells #[.int .i64 x.f, .int .u32 x.q, .int .u64 x.s, .int .i64 x.v, .slice x.a x.dl x.dc, .string x.text] 47) = W5 at *
          clear hW5
          generalize hmb : wr.heap.size = mb at *
          clear hmb
          go_quiet_grown (first
            | (go_at_call 31; exact Calls.grown_of (ho _ _ _ _ _ _ _ _ _))
            | (go_at_call 30; exact Calls.grown_of (hcm _)))
          have HS6 := Lib.hid (HS5.out.later (Grw.below ⟨nq, osq, rfl⟩))
          have d0 := a0 nq osq
          have d1 := a1 nq osq
          have d2 := a2 nq osq
          have d3 := a3 nq osq
          have d4 := a4 nq osq
          have d5 := a5 nq osq
          clear a0 a1 a2 a3 a4 a5 b0 b1 ho hcm HS5
          generalize grow (W5.drewN nq) osq = W6 at *
          cases hr : decide (0 < r) with
          | true =>
            have hrp : 0 < r := of_decide_eq_true hr
            rw [hr] at HLS
            have HL7 := Lib.hid (lst_one (MgB.new W6 x))
            have HS7 := Lib.hid (HS6.out.later ((Grw.refl W6).alloc (.cells #[.int .i64 x.f, .int .u32 x.q, .int .u64 x.s, .int .i64 x.v, .slice x.a x.dl x.dc, .string x.text] 47)).below)
            have HSN := Lib.hid hsn
            clear hr HS6 hsn
            go_wp2_with (at_builtin; refine wpList_append_h rfl (.tmp 28) (.tmp 30) rfl s _ rfl HS7.out.slot ⟨W6.heap.size, 0, none⟩ 1 1 [x] rfl HL7.out (by decide) (by have := HSN.out; omega) ?_; intro s' w' hs' hn' hg' hl')
            clear hn'
            have HS8 := Lib.hid (HS7.out.more hs' hg' hl')
            clear hs' hg' hl' HS7 HL7
            unfold Sl.v
            go_roundw
            case rel =>
              refine ⟨i + 1, s', by omega, by go_num, rfl, Lib.hid ?_⟩
              rw [HTK.out, List.filter_append, ← List.append_assoc, List.filter_cons_of_pos (by rw [HLS.out])]
              exact HS8.out
            case measure => simp [intOf]; omega
          | false =>
            have hrp : ¬ 0 < r := of_decide_eq_false hr
            rw [hr] at HLS
            clear hr d0 d1 d2 d3 d4 d5
            go_wp2
            go_roundw
            case rel =>
              refine ⟨i + 1, s, by omega, by go_num, rfl, Lib.hid ?_⟩
              rw [HTK.out, List.filter_append, List.filter_cons_of_neg (by rw [HLS.out]; simp), List.filter_nil, List.append_nil]
              exact HS6.out
            case measure => simp [intOf]; omega
        · have hE : Hid (AbSt W wr (catF X ⟨kn, kp⟩ (k + 1)) s) := Lib.hid (by
            have h1 := HH.out.len k hlt
            rw [HSL.out] at h1
            have h2 : (X k).take i = X k := List.take_of_length_le (by simp only at h1; omega)
            have h3 := HS.out
            rw [h2] at h3
            exact h3)
          go_wp2
          go_roundw
          case rel => exact ⟨k + 1, s, by omega, by go_num, rfl, hE⟩
          case measure => simp [intOf]; omega
    · have hkb := HKB.out
      subst hkb
      obtain rfl : k = 64 := by omega
      have hsn : s.n ≤ 100000 := by
        have h1 := HCL.out 64 (by omega)
        have h4 : 64 * N ≤ 64 * 1000 := Nat.mul_le_mul (by omega) hN
        rw [← HS.out.slot.len]; omega
      have HDE : Hid (∀ x ∈ catF X ⟨kn, kp⟩ 64, DpIn wr x ∧ x.dl ≤ 1048576) := Lib.hid fun x hx => by
        obtain ⟨p, hp, hm, _⟩ := catF_mem X ⟨kn, kp⟩ x 64 hx
        have := HH.out.deps p hp x hm
        exact ⟨this.deps.below HS.out.bel, this.few⟩
      have P1 := sort_any s.n (stable_all s.n (by omega)) s.a s.c (catF X ⟨kn, kp⟩ 64) wr HS.out.slot.lst HS.out.slot.cap0 (by omega)
      generalize catF X ⟨kn, kp⟩ 64 = O at *
      go_wp2_with fail
      refine P1.mono ?_
      rintro e w1 ⟨ao, c, M, rfl, hc0, hM, hLM, hB1⟩
      have P2 := hown_any ⟨ao, s.n, c⟩ M w1 hLM hc0 (fun x hx => by
        have := HDE.out x ((hM.fil.mem x).1 hx)
        exact ⟨this.1.below hB1, this.2⟩) hsn
      have HM := Lib.hid (isSrt_strip hM)
      have hB1' := Lib.hid (HLB.out.trans ((HS.out.bel.trans (hB1.mono HS.out.bel.size)).mono HLB.out.size))
      clear P1 hM hLM hc0 hB1
      go_wp2_with fail
      refine P2.mono ?_
      rintro e w2 ⟨s2, Y, rfl, hO, hY, hB2, _⟩
      have HFIN : Hid (OutR w2 w.heap.size s2 Y ∧ IsSrt Mg.key (O.map strip) (Y.map strip) ∧ Below w.heap.size w w2) := Lib.hid ⟨hO.base hB1'.out.size, by rw [hY]; exact HM.out, hB1'.out.trans (hB2.mono hB1'.out.size)⟩
      clear P2 hO hY hB2
      go_wp2_with fail
      go_ret
      exact ⟨s2, Y, rfl, HFIN.out.1, HFIN.out.2.1, HFIN.out.2.2⟩
end
end Go.Proofs.Ytfocjcdfpnbkjaa

/- A hold with one message more, and with some dropped: the worlds behind the writes. -/
set_option linter.unusedVariables false
set_option linter.unusedSimpArgs false
namespace Go.Proofs.Ytfocjcdfpnbkjaa
open Go.RowKit Go.Sort

/-- The hold's blocks, and all that a call made. -/
def newF (F : Nat → Prop) (w w' : World) : Nat → Prop := fun k => F k ∨ (w.heap.size ≤ k ∧ k < w'.heap.size)
theorem Sl.block {s : Sl} {k : Nat} (h : s.v.ownBlock = some k) : ∃ x, s.a = some x ∧ x.block = k := by
  obtain ⟨a, n, c⟩ := s
  cases a with
  | none => simp [Sl.v, Value.ownBlock] at h
  | some x => simp [Sl.v, Value.ownBlock] at h; exact ⟨x, rfl, h⟩
theorem typ_ne {w : World} {a b : Nat} {ca cb : Array Value} {ta tb : TypeId} (ha : w.heap[a]? = some (.cells ca ta (0, 0))) (hb : w.heap[b]? = some (.cells cb tb (0, 0))) (h : ta ≠ tb) : a ≠ b := by
  rintro rfl
  rw [ha] at hb
  injection hb with hb
  injection hb with _ hb _
  exact h hb
section
variable {w : World} {F : Nat → Prop} {g N : Nat} {lo : Nat → Nat} {sl : Nat → Sl} {X : Nat → List Mg}
theorem HAt.slot_ne (h : HAt w F g N lo sl X) (p : Nat) (hp : p < 64) (x : Addr) (hx : (sl p).a = some x) : x.block ≠ g := by
  obtain ⟨cur, hc⟩ := (h.slot p hp).typ x hx
  exact typ_ne hc h.own (by decide)
set_option maxHeartbeats 1000000 in
theorem HAt.put (h : HAt w F g N lo sl X) {W W' : World} (HB : Below w.heap.size w W) {k : Nat} (hk : k < 64) {x : Mg} (hx : DpT W (fun j => w.heap.size ≤ j) x) {s' : Sl} (hs : SlotAt W' s' (X k ++ [x])) (hg : W.grownBy W' (sl k).v.ownBlock)
    (hloc : ∃ y, s'.a = some y ∧ ((∃ z, (sl k).a = some z ∧ z.block = y.block) ∨ W.heap.size ≤ y.block)) :
    HAt (W'.setCell ⟨g, 64 + k, none⟩ s'.v) (newF F w (W'.setCell ⟨g, 64 + k, none⟩ s'.v)) g (N + 1) lo (updF sl k s') (updF X k (X k ++ [x])) ∧ Chg F w (W'.setCell ⟨g, 64 + k, none⟩ s'.v) := by
  obtain ⟨y, hy, hyl⟩ := hloc
  have hsz : (W'.setCell ⟨g, 64 + k, none⟩ s'.v).heap.size = W'.heap.size := by simp [World.setCell]
  have h1 := h.below HB
  have s1 := HB.size
  have s2 := hg.size
  have hgo : some g ≠ (sl k).v.ownBlock := fun e => by
    obtain ⟨z, hz, e2⟩ := Sl.block e.symm
    exact h1.slot_ne k hk z hz e2
  have o2 : Own W' g 186 (hC lo sl).toArray := h1.own.grown hg hgo
  have o3 := o2.set (64 + k) s'.v
  rw [hC_set_sl _ _ _ _ hk] at o3
  have hset : ∀ j, j ≠ g → (W'.setCell ⟨g, 64 + k, none⟩ s'.v).heap[j]? = W'.heap[j]? := fun j hj => heap_setCell_other W' _ j _ hj
  obtain ⟨cy, hcy⟩ := hs.typ y hy
  have hyg : y.block ≠ g := typ_ne hcy o2 (by decide)
  have hylt := hs.lt y hy
  -- what neither the append nor the store turns
  have keep : ∀ j, j < W.heap.size → j ≠ g → (∀ z, (sl k).a = some z → j ≠ z.block) → (W'.setCell ⟨g, 64 + k, none⟩ s'.v).heap[j]? = W.heap[j]? := fun j hj h2 h3 => (hset j h2).trans (hg.block j hj fun e => by
    obtain ⟨z, hz, e2⟩ := Sl.block e.symm
    exact h3 z hz e2.symm)
  have keepD : ∀ (E : Nat → Prop) (z : Mg), DpT W E z → DpT (W'.setCell ⟨g, 64 + k, none⟩ s'.v) E z := fun E z hz => hz.kept fun ad e => keep _ (hz.lt ad e) (hz.ne_hold ad e h1.own) fun u hu => by
    obtain ⟨cu, hcu⟩ := (h1.slot k hk).typ u hu
    exact hz.ne ad e hcu
  refine ⟨⟨o3, .inl h.fg, fun j hj => ?_, fun p hp => ?_, fun p hp z hz => ?_, fun p q hp hq hpq z u hz hu => ?_, fun p hp z hz => ?_, fun p hp => ?_⟩, ?_⟩
  · rcases hj with hj | hj
    · have := h.lim j hj; omega
    · exact hj.2
  · by_cases e : p = k
    · subst e
      rw [updF_same, updF_same]
      exact hs.kept fun z hz => by
        rw [hy] at hz; cases hz
        exact hset _ hyg
    · rw [updF_other _ _ _ _ e, updF_other _ _ _ _ e]
      refine (h1.slot p hp).kept fun z hz => keep _ ((h1.slot p hp).lt z hz) (h1.slot_ne p hp z hz) fun u hu => h1.apart p k hp hk e z u hz hu
  · by_cases e : p = k
    · subst e
      rw [updF_same] at hz
      rw [hy] at hz; cases hz
      rcases hyl with ⟨u, hu, e2⟩ | e2
      · exact .inl (e2 ▸ h.inF p hp u hu)
      · exact .inr ⟨by omega, by omega⟩
    · rw [updF_other _ _ _ _ e] at hz
      exact .inl (h.inF p hp z hz)
  · by_cases e : p = k
    · subst e
      rw [updF_same] at hz
      rw [updF_other _ _ _ _ (fun e => hpq e.symm)] at hu
      rw [hy] at hz; cases hz
      rcases hyl with ⟨v, hv, e2⟩ | e2
      · rw [← e2]; exact h.apart p q hp hq hpq v u hv hu
      · have := (h.slot q hq).lt u hu; omega
    · rw [updF_other _ _ _ _ e] at hz
      by_cases e2 : q = k
      · subst e2
        rw [updF_same] at hu
        rw [hy] at hu; cases hu
        rcases hyl with ⟨v, hv, e2⟩ | e2
        · rw [← e2]; exact h.apart p q hp hq hpq z v hz hv
        · have := (h.slot p hp).lt z hz; omega
      · rw [updF_other _ _ _ _ e2] at hu
        exact h.apart p q hp hq hpq z u hz hu
  · by_cases e : p = k
    · subst e
      rw [updF_same] at hz
      rcases List.mem_append.1 hz with hz | hz
      · exact (keepD _ _ (h1.deps p hp z hz)).more fun j _ hj => .inl hj
      · rw [List.mem_singleton.1 hz]
        exact (keepD _ _ hx).more fun j hj hj2 => .inr ⟨hj2, hj⟩
    · rw [updF_other _ _ _ _ e] at hz
      exact (keepD _ _ (h1.deps p hp z hz)).more fun j _ hj => .inl hj
  · have := h.bnd p hp
    by_cases e : p = k
    · subst e
      rw [updF_same, List.length_append, List.length_singleton]
      omega
    · rw [updF_other _ _ _ _ e]; omega
  · have c1 : Chg F w W := Chg.of_below HB
    have c2 : Chg F w W' := c1.to (Chg.grown (D := F) hg fun j hj => by
      obtain ⟨z, hz, e2⟩ := Sl.block hj
      exact e2 ▸ h.inF k hk z hz) fun _ _ e => e
    exact c2.to (Chg.grown (D := F) (grown_set W' g (64 + k) s'.v) fun j hj => by cases hj; exact h.fg) fun _ _ e => e

set_option maxHeartbeats 1000000 in
theorem HAt.drop (h : HAt w F g N lo sl X) {k : Nat} (hk : k < 64) {m : Nat} (hm : m ≤ (sl k).n) {W : World} (hW : ∀ j, (∀ z, (sl k).a = some z → j ≠ z.block) → W.heap[j]? = w.heap[j]?) (hsW : W.heap.size = w.heap.size) (ho : W.os = w.os ∧ W.tape = w.tape ∧ W.output = w.output)
    (hs : SlotAt W ((sl k).from_ m) ((X k).drop m)) :
    HAt ((W.setCell ⟨g, 64 + k, none⟩ ((sl k).from_ m).v).setCell ⟨g, k, none⟩ (.int .u32 ((lo k + m : Nat) : Int))) F g N (updF lo k (lo k + m)) (updF sl k ((sl k).from_ m)) (updF X k ((X k).drop m)) ∧
      Chg F w ((W.setCell ⟨g, 64 + k, none⟩ ((sl k).from_ m).v).setCell ⟨g, k, none⟩ (.int .u32 ((lo k + m : Nat) : Int))) := by
  have hsz : ((W.setCell ⟨g, 64 + k, none⟩ ((sl k).from_ m).v).setCell ⟨g, k, none⟩ (.int .u32 ((lo k + m : Nat) : Int))).heap.size = w.heap.size := by rw [← hsW]; simp [World.setCell]
  have o1 : Own W g 186 (hC lo sl).toArray := (hW g fun z hz e => h.slot_ne k hk z hz e.symm).trans h.own
  have o2 := o1.set (64 + k) ((sl k).from_ m).v
  rw [hC_set_sl _ _ _ _ hk] at o2
  have o3 := o2.set k (.int .u32 ((lo k + m : Nat) : Int))
  rw [hC_set_lo _ _ _ _ hk] at o3
  have hset : ∀ j, j ≠ g → ((W.setCell ⟨g, 64 + k, none⟩ ((sl k).from_ m).v).setCell ⟨g, k, none⟩ (.int .u32 ((lo k + m : Nat) : Int))).heap[j]? = W.heap[j]? := fun j hj => (heap_setCell_other _ _ j _ hj).trans (heap_setCell_other W _ j _ hj)
  have keepD : ∀ z, DpT w F z → DpT ((W.setCell ⟨g, 64 + k, none⟩ ((sl k).from_ m).v).setCell ⟨g, k, none⟩ (.int .u32 ((lo k + m : Nat) : Int))) F z := fun z hz => hz.kept fun ad e => (hset _ (hz.ne_hold ad e h.own)).trans (hW _ fun u hu => by
    obtain ⟨cu, hcu⟩ := (h.slot k hk).typ u hu
    exact hz.ne ad e hcu)
  refine ⟨⟨o3, h.fg, fun j hj => by rw [hsz]; exact h.lim j hj, fun p hp => ?_, fun p hp z hz => ?_, fun p q hp hq hpq z u hz hu => ?_, fun p hp z hz => ?_, fun p hp => ?_⟩, ?_⟩
  · by_cases e : p = k
    · subst e
      rw [updF_same, updF_same]
      refine hs.kept fun z hz => hset _ fun e => ?_
      obtain ⟨y, hy, e2⟩ := from_block hz
      exact h.slot_ne p hp y hy (e2.trans e)
    · rw [updF_other _ _ _ _ e, updF_other _ _ _ _ e]
      exact (h.slot p hp).kept fun z hz => (hset _ (h.slot_ne p hp z hz)).trans (hW _ fun u hu => h.apart p k hp hk e z u hz hu)
  · by_cases e : p = k
    · subst e
      rw [updF_same] at hz
      obtain ⟨y, hy, e2⟩ := from_block hz
      exact e2 ▸ h.inF p hp y hy
    · rw [updF_other _ _ _ _ e] at hz
      exact h.inF p hp z hz
  · by_cases e : p = k
    · subst e
      rw [updF_same] at hz
      rw [updF_other _ _ _ _ (fun e => hpq e.symm)] at hu
      obtain ⟨y, hy, e2⟩ := from_block hz
      rw [← e2]; exact h.apart p q hp hq hpq y u hy hu
    · rw [updF_other _ _ _ _ e] at hz
      by_cases e2 : q = k
      · subst e2
        rw [updF_same] at hu
        obtain ⟨y, hy, e2⟩ := from_block hu
        rw [← e2]; exact h.apart p q hp hq hpq z y hz hy
      · rw [updF_other _ _ _ _ e2] at hu
        exact h.apart p q hp hq hpq z u hz hu
  · by_cases e : p = k
    · subst e
      rw [updF_same] at hz
      exact keepD z (h.deps p hp z (List.mem_of_mem_drop hz))
    · rw [updF_other _ _ _ _ e] at hz
      exact keepD z (h.deps p hp z hz)
  · have := h.bnd p hp
    have := h.len k hk
    by_cases e : p = k
    · subst e
      rw [updF_same, updF_same, List.length_drop]
      omega
    · rw [updF_other _ _ _ _ e, updF_other _ _ _ _ e]; omega
  · refine ⟨ho.1, ho.2.1, ho.2.2, by omega, fun j hj hn => (hset j fun e => hn (e ▸ h.fg)).trans (hW j fun z hz e => hn (e ▸ h.inF k hk z hz))⟩
end
end Go.Proofs.Ytfocjcdfpnbkjaa
