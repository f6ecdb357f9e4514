/- Above. -/
import Derived.Test.YtafenlacacghoaaHdFrom
import Derived.Test.YtafenlacacghoaaStable
import Derived.Test.YtafenlacacghoaaMsg
set_option linter.unusedVariables false
set_option linter.unusedSimpArgs false
namespace Go.Proofs.Ytafenlacacghoaa
open Go.RowKit Go.Sort

theorem slots_size : (Try.prog.info? 67).map (·.size) = some 64 := by kernel_rfl
/-- An array's element, read. -/
theorem index_slots (f : Nat → Sl) (k : Nat) (hk : k < 64) (w : World) : (Instr.index 67 (.agg (rowF Sl.v f).toArray) (.int .i64 (k : Int))).run Try.prog w = .ok (.slice (f k).a (f k).n (f k).c) w := by
  have hk' : 0 ≤ (k : Int) ∧ (k : Int) < ((64 : Nat) : Int) := by omega
  have ha : (isAgg 31).run Try.prog w = .ok false w := by kernel_rfl
  have hs : (sizeOf 31).run Try.prog w = .ok 1 w := by kernel_rfl
  have hx : (rowF Sl.v f)[k]? = some (.slice (f k).a (f k).n (f k).c) := rowF_at Sl.v f k hk
  simp only [Instr.index, asIntOf, Sem.run_bind, Sem.run_pure, Result.andThen_ok, run_underlying Try.underlying67]
  rw [if_pos hk']
  simp [Sem.run_bind, Sem.run_pure, Result.andThen_ok, hs, part, ha, Int.toNat_natCast, hx]
theorem step_index12 {ops : Array Oper} {rest : List Oper} {o : Oper} {a : Act} {w : World} {Q : Exit → Act → World → Prop} (hgd : o.guard = none) (ty : TypeId) (x y : Operand) (ho : o.op = .index ty x y)
    (vx vy v : Value) (hx : a.eval x = vx) (hy : a.eval y = vy) (hb : (Instr.index ty vx vy).run Try.prog w = .ok v w)
    (h : wpList Try.prog ops Q rest (a.put o.dst v) w) : wpList Try.prog ops Q (o :: rest) a w :=
  wpList_plain hgd fun _ hK => by
    unfold Oper.wp execOp
    simp only [ho, hx, hy, Sem.run_bind, Sem.run_pure, Result.andThen_ok, hb]
    exact hK _ _ h

/-- Those behind the key, of the processes below n. -/
def catF (X : Nat → List Mg) (kk : K) : Nat → List Mg
  | 0 => []
  | k + 1 => catF X kk k ++ (X k).filter fun x => kk.less x.key
theorem catF_len (X : Nat → List Mg) (kk : K) (N : Nat) (h : ∀ p, p < 64 → (X p).length ≤ N) : ∀ k, k ≤ 64 → (catF X kk k).length ≤ k * N
  | 0, _ => Nat.zero_le _
  | k + 1, hk => by
    have h1 := catF_len X kk N h k (by omega)
    have h2 := h k (by omega)
    have h3 := List.length_filter_le (fun x => kk.less x.key) (X k)
    unfold catF
    rw [List.length_append, Nat.add_mul, Nat.one_mul]
    omega
theorem catF_mem (X : Nat → List Mg) (kk : K) (x : Mg) : ∀ k, x ∈ catF X kk k → ∃ p, p < k ∧ x ∈ X p ∧ kk.less x.key = true
  | 0, h => by simp [catF] at h
  | k + 1, h => by
    unfold catF at h
    rcases List.mem_append.1 h with h | h
    · obtain ⟨p, hp, h⟩ := catF_mem X kk x k h
      exact ⟨p, by omega, h⟩
    · exact ⟨k, by omega, (List.mem_filter.1 h).1, by simpa using (List.mem_filter.1 h).2⟩
theorem filter_strip (l : List Mg) (kk : K) : (l.filter fun x => kk.less x.key).map strip = (l.map strip).filter fun x => kk.less x.key := by
  rw [List.filter_map]; rfl
theorem catF_strip (X Y : Nat → List Mg) (kk : K) (h : ∀ p, p < 64 → (X p).map strip = (Y p).map strip) : ∀ k, k ≤ 64 → (catF X kk k).map strip = (catF Y kk k).map strip
  | 0, _ => rfl
  | k + 1, hk => by
    unfold catF
    rw [List.map_append, List.map_append, catF_strip X Y kk h k (by omega), filter_strip, filter_strip, h k (by omega)]
theorem isSrt_strip {l l' : List Mg} (h : IsSrt Mg.key l l') : IsSrt Mg.key (l.map strip) (l'.map strip) := by
  refine ⟨?_, fun c => ?_⟩
  · unfold Srt
    rw [List.pairwise_map]
    exact h.srt
  · rw [List.filter_map, List.filter_map]
    exact congrArg _ (h.fil c)
/-- What Above answers: O sorted. -/
def AboveSaid (w : World) (O : List Mg) (e : Ending) (w' : World) : Prop := ∃ s Y, e = .returned (.slice s.a s.n s.c) ∧ OutR w' w.heap.size s Y ∧ IsSrt Mg.key (O.map strip) (Y.map strip) ∧ Below w.heap.size w w'

/-- Amid the loops. -/
structure AbSt (w wr : World) (O : List Mg) (s : Sl) : Prop where
  bel : Below w.heap.size w wr
  slot : SlotAt wr s O
  new : ∀ x, s.a = some x → w.heap.size ≤ x.block
theorem AbSt.later {w wr w' : World} {O : List Mg} {s : Sl} (h : AbSt w wr O s) (hb : Below wr.heap.size wr w') : AbSt w w' O s :=
  ⟨h.bel.trans (hb.mono h.bel.size), h.slot.below hb, h.new⟩
theorem AbSt.more {w wr w' : World} {O : List Mg} {s s' : Sl} {x : Mg} (h : AbSt w wr O s) (hs : SlotAt w' s' (O ++ [x])) (hg : wr.grownBy w' s.v.ownBlock) (hl : ∃ y, s'.a = some y ∧ ((∃ z, s.a = some z ∧ z.block = y.block) ∨ wr.heap.size ≤ y.block)) : AbSt w w' (O ++ [x]) s' := by
  have hsz := h.bel.size
  refine ⟨h.bel.grown hg hsz (fun k hk => ?_), hs, fun y hy => ?_⟩
  · cases hs2 : s.a with
    | none => simp [Sl.v, Value.ownBlock, hs2] at hk
    | some z =>
      simp [Sl.v, Value.ownBlock, hs2] at hk
      rw [← hk]; exact h.new z hs2
  · obtain ⟨y', e, h1⟩ := hl
    rw [hy] at e; cases e
    rcases h1 with ⟨z, hz, e2⟩ | h1
    · rw [← e2]; exact h.new z hz
    · omega
section
variable {w : World} {F : Nat → Prop} {g N : Nat} {lo : Nat → Nat} {sl : Nat → Sl} {X : Nat → List Mg}
set_option maxHeartbeats 8000000 in
set_option maxRecDepth 100000 in
theorem habove (h : HAt w F g N lo sl X) (hN : N ≤ 1000) (kk : K) :
    Calls Try.prog 21 #[.pointer (some ⟨g, 0, none⟩), .agg #[.int .u64 kk.n, .int .i64 kk.p]] w (AboveSaid w (catF X kk 64)) := by
  obtain ⟨kn, kp⟩ := kk
  simp only
  have mixed : Try.prog.follows .mixedOrders = true := by kernel_rfl
  have hbX : ∀ p, p < 64 → (X p).length ≤ N := fun p hp => by have := h.bnd p hp; omega
  have HBX := Lib.hid hbX
  have HCL := Lib.hid (catF_len X ⟨kn, kp⟩ N hbX)
  have LB := ((Grw.refl w).alloc (.cells #[.int .u64 kn, .int .i64 kp] 26)).below
  have H1 := h.below LB
  have HR := Lib.hid H1.rangeS
  have HRL := Lib.hid (rowF_length Sl.v sl)
  have HIX : Hid (∀ k : Nat, k < 64 → ∀ W, (Instr.index 67 (.agg (rowF Sl.v sl).toArray) (.int .i64 (k : Int))).run Try.prog W = .ok (.slice (sl k).a (sl k).n (sl k).c) W) := Lib.hid fun k hk W => index_slots sl k hk W
  have hk0 : (w.alloc (.cells #[.int .u64 kn, .int .i64 kp] 26)).cell? ⟨w.heap.size, 0, none⟩ = some (.int .u64 kn) := by simp
  have hk1 : (w.alloc (.cells #[.int .u64 kn, .int .i64 kp] 26)).cell? ⟨w.heap.size, 1, none⟩ = some (.int .i64 kp) := by simp
  have hsz : (w.alloc (.cells #[.int .u64 kn, .int .i64 kp] 26)).heap.size = w.heap.size + 1 := by simp
  have HH := Lib.hid H1
  have HLB := Lib.hid LB
  clear h H1 LB hbX
  generalize rowF Sl.v sl = C at *
  go_enter Try.func21, Try.ntmps21
  go_upto_region 1 with fail
  generalize w.alloc (.cells #[.int .u64 kn, .int .i64 kp] 26) = W at *
  generalize hkb : w.heap.size = kb at *
  have HKB := Lib.hid hkb
  clear hkb
  have hkb1 : kb < W.heap.size := by omega
  go_wp2_with (with_reducible refine wpList_load_mid rfl 67 (.tmp 12) rfl g 64 rfl C _ HR.out Try.underlying67 rfl (by rw [HRL.out]; exact slots_size) ?_)
  clear HR HRL
  have A0 : Hid (AbSt W W [] slNil) := Lib.hid ⟨Below.refl _ _, SlotAt.nil W, fun x hx => by simp [slNil] at hx⟩
  go_loopw [5, 14] (fun so si wr => ∃ (k : Nat) (s : Sl), k ≤ 64 ∧ si = .int .i64 k ∧ so = .slice s.a s.n s.c ∧ Hid (AbSt W wr (catF X ⟨kn, kp⟩ k) s)) (fun _ si _ => 64 - (intOf si).toNat)
  case atStart => exact ⟨0, slNil, Nat.zero_le _, rfl, rfl, A0⟩
  case round =>
    obtain ⟨k, s, hk, rfl, rfl, HS⟩ := hrel
    by_cases hlt : k < 64
    · have hix := HIX.out k hlt
      obtain ⟨sa, sn, sc, hsl⟩ : ∃ sa sn sc, sl k = ⟨sa, sn, sc⟩ := ⟨_, _, _, rfl⟩
      rw [hsl] at hix
      simp only at hix
      have HX := Lib.hid hix
      have HSL := Lib.hid hsl
      clear hix hsl
      go_wp2_with (refine step_index12 rfl _ _ _ rfl _ _ _ rfl rfl (HX.out _) ?_)
      clear HX
      have hS0 : Hid (AbSt W wr (catF X ⟨kn, kp⟩ k ++ ((X k).take 0).filter fun x => K.less ⟨kn, kp⟩ x.key) s) := Lib.hid (by rw [List.take_zero, List.filter_nil, List.append_nil]; exact HS.out)
      obtain ⟨w5, hw5⟩ : ∃ w5, w5 = wr := ⟨_, rfl⟩
      rw [← hw5] at HS
      go_loopw [5, 19] (fun so si wr => ∃ (i : Nat) (s : Sl), i ≤ sn ∧ si = .int .i64 i ∧ so = .slice s.a s.n s.c ∧ Hid (AbSt W wr (catF X ⟨kn, kp⟩ k ++ ((X k).take i).filter fun x => K.less ⟨kn, kp⟩ x.key) s)) (fun _ si _ => sn - (intOf si).toNat)
      case atStart => exact ⟨0, s, Nat.zero_le _, rfl, rfl, hS0⟩
      case round =>
        obtain ⟨i, s, hi, rfl, rfl, HS⟩ := hrel
        by_cases hlt2 : i < sn
        · have hSlot := HH.out.slot k hlt
          have hle := hSlot.len
          rw [HSL.out] at hSlot hle
          rcases hSlot with ⟨e0, _⟩ | ⟨b, off, hsa, hR⟩
          · exfalso; injection e0 with _ e0 _; omega
          simp only at hsa hle
          have hi9 : i < 1000 := by have := HBX.out k hlt; omega
          obtain ⟨x, hx⟩ : ∃ x, (X k)[i]? = some x := ⟨_, List.getElem?_eq_getElem (by omega)⟩
          have hcell : ∀ j v, (encG x)[j]? = some v → wr.cell? ⟨b, off + i * 6 + j, none⟩ = some v := fun j v hv => by
            have hj : j < 6 := by have := (List.getElem?_eq_some_iff.1 hv).1; rwa [encG_length] at this
            refine cell_later HS.out.bel ?_
            rw [Nat.add_assoc]
            exact hR.cell _ _ (by rw [flat_at encG 6 encG_length (X k) i x hx j hj]; exact hv)
          have c0 := hcell 0 _ rfl
          have c1 := hcell 1 _ rfl
          have c2 := hcell 2 _ rfl
          have c3 := hcell 3 _ rfl
          have c4 := hcell 4 _ rfl
          have c5 := hcell 5 _ rfl
          rw [Nat.add_zero] at c0
          have HTK : Hid ((X k).take (i + 1) = (X k).take i ++ [x]) := Lib.hid (by rw [List.take_succ_eq_append_getElem (by omega), (List.getElem?_eq_some_iff.1 hx).2])
          have hlen : (catF X ⟨kn, kp⟩ k ++ ((X k).take i).filter fun x => K.less ⟨kn, kp⟩ x.key).length ≤ 100000 := by
            have h1 := HCL.out k (by omega)
            have h2 := List.length_filter_le (fun x => K.less ⟨kn, kp⟩ x.key) ((X k).take i)
            have h3 := HBX.out k hlt
            have h4 : k * N ≤ 64 * 1000 := Nat.mul_le_mul (by omega) hN
            rw [List.length_take] at h2
            rw [List.length_append]
            omega
          have hsn : s.n ≤ 100000 := by rw [← HS.out.slot.len]; exact hlen
          have hkk0 : wr.cell? ⟨kb, 0, none⟩ = some (.int .u64 kn) := cell_later HS.out.bel hk0
          have hkk1 : wr.cell? ⟨kb, 1, none⟩ = some (.int .i64 kp) := cell_later HS.out.bel hk1
          have hkbr : kb < wr.heap.size := Nat.lt_of_lt_of_le hkb1 HS.out.bel.size
          have HKC : Hid (kcmp x.key ⟨kn, kp⟩ = kcmp ⟨x.s, x.f⟩ ⟨kn, kp⟩) := Lib.hid rfl
          have HLS : Hid (K.less ⟨kn, kp⟩ x.key = decide (0 < kcmp ⟨x.s, x.f⟩ ⟨kn, kp⟩)) := Lib.hid (by
            have := kcmp_pos x.key ⟨kn, kp⟩
            cases h : K.less ⟨kn, kp⟩ x.key with
            | true => exact (decide_eq_true (this.2 h)).symm
            | false => exact (decide_eq_false (fun e => by rw [this.1 e] at h; cases h)).symm)
          have ho : ∀ (f q s v : Int) (a : Option Addr) (dl dc : Nat) (text : ByteArray) W, Calls Try.prog 36 #[.agg #[.int .i64 f, .int .u32 q, .int .u64 s, .int .i64 v, .slice a dl dc, .string text]] W fun e w' => e = .returned (.agg #[.int .u64 s, .int .i64 f]) ∧ Grw W w' :=
            fun f q s v a dl dc text W => of_any ⟨f, q, s, v, a, dl, dc, [], text⟩ W
          have hcm : ∀ W, Calls Try.prog 35 #[.agg #[.int .u64 x.s, .int .i64 x.f], .agg #[.int .u64 kn, .int .i64 kp]] W fun e w' => e = .returned (.int .i64 (kcmp ⟨x.s, x.f⟩ ⟨kn, kp⟩)) ∧ Grw W w' := compare_any ⟨x.s, x.f⟩ ⟨kn, kp⟩
          have hkbd := kcmp_bd ⟨x.s, x.f⟩ ⟨kn, kp⟩
          generalize kcmp ⟨x.s, x.f⟩ ⟨kn, kp⟩ = r at *
          subst hsa
          have HXX : Hid (∃ y, y = x) := Lib.hid ⟨x, rfl⟩
          clear hcell hR hx hle hlen HKC
          have HM5 := MgB.new wr x
          have LW := ((Grw.refl wr).alloc (.cells #[.int .i64 x.f, .int .u32 x.q, .int .u64 x.s, .int .i64 x.v, .slice x.a x.dl x.dc, .string x.text] 37)).below
          have HS5 := Lib.hid (HS.out.later LW)
          go_upto_region 8 with fail
          have hb5 : wr.heap.size < (wr.alloc (.cells #[.int .i64 x.f, .int .u32 x.q, .int .u64 x.s, .int .i64 x.v, .slice x.a x.dl x.dc, .string x.text] 37)).heap.size := by simp
          have a0 := fun n os => cell_grown (n := n) (os := os) hb5 (HM5.own.at_ 0 _ rfl)
          have a1 := fun n os => cell_grown (n := n) (os := os) hb5 (HM5.own.at_ 1 _ rfl)
          have a2 := fun n os => cell_grown (n := n) (os := os) hb5 (HM5.own.at_ 2 _ rfl)
          have a3 := fun n os => cell_grown (n := n) (os := os) hb5 (HM5.own.at_ 3 _ rfl)
          have a4 := fun n os => cell_grown (n := n) (os := os) hb5 (HM5.own.at_ 4 _ rfl)
          have a5 := fun n os => cell_grown (n := n) (os := os) hb5 (HM5.own.at_ 5 _ rfl)
          have b0 := fun n os => cell_grown (n := n) (os := os) (show kb < (wr.alloc (.cells #[.int .i64 x.f, .int .u32 x.q, .int .u64 x.s, .int .i64 x.v, .slice x.a x.dl x.dc, .string x.text] 37)).heap.size by simp; omega) (cell_later LW hkk0)
          have b1 := fun n os => cell_grown (n := n) (os := os) (show kb < (wr.alloc (.cells #[.int .i64 x.f, .int .u32 x.q, .int .u64 x.s, .int .i64 x.v, .slice x.a x.dl x.dc, .string x.text] 37)).heap.size by simp; omega) (cell_later LW hkk1)
          clear HM5 LW hkk0 hkk1 c0 c1 c2 c3 c4 c5 HS
          generalize hW5 : wr.alloc (.cells #[.int .i64 x.f, .int .u32 x.q, .int .u64 x.s, .int .i64 x.v, .slice x.a x.dl x.dc, .string x.text] 37) = W5 at *
          clear hW5
          generalize hmb : wr.heap.size = mb at *
          clear hmb
          go_quiet_grown (first
            | (go_at_call 36; exact Calls.grown_of (ho _ _ _ _ _ _ _ _ _))
            | (go_at_call 35; exact Calls.grown_of (hcm _)))
          have HS6 := Lib.hid (HS5.out.later (Grw.below ⟨nq, osq, rfl⟩))
          have d0 := a0 nq osq
          have d1 := a1 nq osq
          have d2 := a2 nq osq
          have d3 := a3 nq osq
          have d4 := a4 nq osq
          have d5 := a5 nq osq
          clear a0 a1 a2 a3 a4 a5 b0 b1 ho hcm HS5
          generalize grow (W5.drewN nq) osq = W6 at *
          cases hr : decide (0 < r) with
          | true =>
            have hrp : 0 < r := of_decide_eq_true hr
            rw [hr] at HLS
            have HL7 := Lib.hid (lst_one (MgB.new W6 x))
            have HS7 := Lib.hid (HS6.out.later ((Grw.refl W6).alloc (.cells #[.int .i64 x.f, .int .u32 x.q, .int .u64 x.s, .int .i64 x.v, .slice x.a x.dl x.dc, .string x.text] 37)).below)
            have HSN := Lib.hid hsn
            clear hr HS6 hsn
            go_wp2_with (at_builtin; refine wpList_append_h rfl (.tmp 28) (.tmp 30) rfl s _ rfl HS7.out.slot ⟨W6.heap.size, 0, none⟩ 1 1 [x] rfl HL7.out (by decide) (by have := HSN.out; omega) ?_; intro s' w' hs' hn' hg' hl')
            clear hn'
            have HS8 := Lib.hid (HS7.out.more hs' hg' hl')
            clear hs' hg' hl' HS7 HL7
            unfold Sl.v
            go_roundw
            case rel =>
              refine ⟨i + 1, s', by omega, by go_num, rfl, Lib.hid ?_⟩
              rw [HTK.out, List.filter_append, ← List.append_assoc, List.filter_cons_of_pos (by rw [HLS.out])]
              exact HS8.out
            case measure => simp [intOf]; omega
          | false =>
            have hrp : ¬ 0 < r := of_decide_eq_false hr
            rw [hr] at HLS
            clear hr d0 d1 d2 d3 d4 d5
            go_wp2
            go_roundw
            case rel =>
              refine ⟨i + 1, s, by omega, by go_num, rfl, Lib.hid ?_⟩
              rw [HTK.out, List.filter_append, List.filter_cons_of_neg (by rw [HLS.out]; simp), List.filter_nil, List.append_nil]
              exact HS6.out
            case measure => simp [intOf]; omega
        · have hE : Hid (AbSt W wr (catF X ⟨kn, kp⟩ (k + 1)) s) := Lib.hid (by
            have h1 := HH.out.len k hlt
            rw [HSL.out] at h1
            have h2 : (X k).take i = X k := List.take_of_length_le (by simp only at h1; omega)
            have h3 := HS.out
            rw [h2] at h3
            exact h3)
          go_wp2
          go_roundw
          case rel => exact ⟨k + 1, s, by omega, by go_num, rfl, hE⟩
          case measure => simp [intOf]; omega
    · have hkb := HKB.out
      subst hkb
      obtain rfl : k = 64 := by omega
      have hsn : s.n ≤ 100000 := by
        have h1 := HCL.out 64 (by omega)
        have h4 : 64 * N ≤ 64 * 1000 := Nat.mul_le_mul (by omega) hN
        rw [← HS.out.slot.len]; omega
      have HDE : Hid (∀ x ∈ catF X ⟨kn, kp⟩ 64, DpIn wr x ∧ x.dl ≤ 1048576) := Lib.hid fun x hx => by
        obtain ⟨p, hp, hm, _⟩ := catF_mem X ⟨kn, kp⟩ x 64 hx
        have := HH.out.deps p hp x hm
        exact ⟨this.deps.below HS.out.bel, this.few⟩
      have P1 := sort_any s.n (stable_all s.n (by omega)) s.a s.c (catF X ⟨kn, kp⟩ 64) wr HS.out.slot.lst HS.out.slot.cap0 (by omega)
      generalize catF X ⟨kn, kp⟩ 64 = O at *
      go_wp2_with fail
      refine P1.mono ?_
      rintro e w1 ⟨ao, c, M, rfl, hc0, hM, hLM, hB1⟩
      have P2 := hown_any ⟨ao, s.n, c⟩ M w1 hLM hc0 (fun x hx => by
        have := HDE.out x ((hM.fil.mem x).1 hx)
        exact ⟨this.1.below hB1, this.2⟩) hsn
      have HM := Lib.hid (isSrt_strip hM)
      have hB1' := Lib.hid (HLB.out.trans ((HS.out.bel.trans (hB1.mono HS.out.bel.size)).mono HLB.out.size))
      clear P1 hM hLM hc0 hB1
      go_wp2_with fail
      refine P2.mono ?_
      rintro e w2 ⟨s2, Y, rfl, hO, hY, hB2, _⟩
      have HFIN : Hid (OutR w2 w.heap.size s2 Y ∧ IsSrt Mg.key (O.map strip) (Y.map strip) ∧ Below w.heap.size w w2) := Lib.hid ⟨hO.base hB1'.out.size, by rw [hY]; exact HM.out, hB1'.out.trans (hB2.mono hB1'.out.size)⟩
      clear P2 hO hY hB2
      go_wp2_with fail
      go_ret
      exact ⟨s2, Y, rfl, HFIN.out.1, HFIN.out.2.1, HFIN.out.2.2⟩
end
end Go.Proofs.Ytafenlacacghoaa
