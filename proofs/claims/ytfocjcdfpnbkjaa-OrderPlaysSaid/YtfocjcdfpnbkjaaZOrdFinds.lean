/- slices.IndexFunc, DeleteFunc at rows of messages with the method value 'o.delivered'. (Written by gen_ofind.py.) -/
import Derived.Test.YtfocjcdfpnbkjaaZOrdDrain
import Derived.Deep.DeepCutAuto
import Derived.Shelf.Abstract
set_option linter.unusedVariables false
set_option maxRecDepth 100000
set_option linter.unusedSimpArgs false
namespace Go.Proofs.Ytfocjcdfpnbkjaa
open Go.RowKit Go.Sort Go.Shelf

theorem load_mgx {ops : Array Oper} {rest : List Oper} {o : Oper} {A : Act} {w : World} {Q : Exit → Act → World → Prop} (hgd : o.guard = none) (x : Operand) (ho : o.op = .load 47 x)
    (b q : Nat) (a : Mg) (hx : A.eval x = .pointer (some ⟨b, q, none⟩)) (hc : w.rangeAt b q (encG a))
    (h : wpList Try.prog ops Q rest (A.put o.dst (.agg #[.int .i64 a.f, .int .u32 a.q, .int .u64 a.s, .int .i64 a.v, .slice a.a a.dl a.dc, .string a.text])) w) : wpList Try.prog ops Q (o :: rest) A w :=
  wpList_load_mid hgd 47 x ho b q hx (encG a) _ hc Try.underlying47 rfl msg_size h
theorem store_mgx {ops : Array Oper} {rest : List Oper} {o : Oper} {A : Act} {w : World} {Q : Exit → Act → World → Prop} (hgd : o.guard = none) (x y : Operand) (ho : o.op = .store 47 x y)
    (g q : Nat) (a : Mg) (hx : A.eval x = .pointer (some ⟨g, q, none⟩)) (hy : A.eval y = .agg #[.int .i64 a.f, .int .u32 a.q, .int .u64 a.s, .int .i64 a.v, .slice a.a a.dl a.dc, .string a.text])
    (hg : w.there g q 6) (h : wpList Try.prog ops Q rest (A.put o.dst undef) (w.setCells g q (encG a))) : wpList Try.prog ops Q (o :: rest) A w :=
  wpList_store_mid hgd 47 x y ho g q _ hx hy hg msg_size (by simp [Value.oneCell']) h
/-- Where the first one stands that p says. -/
def IdxO (p : Mg → Bool) (X : List Mg) (z : Int) : Prop := (z = -1 ∧ ∀ x ∈ X, p x = false) ∨ ∃ k x, z = ((k : Nat) : Int) ∧ X[k]? = some x ∧ p x = true ∧ ∀ j y, j < k → X[j]? = some y → p y = false
theorem IdxO.none {p : Mg → Bool} {X : List Mg} {n : Nat} (hn : X.length = n) (h : ∀ j y, j < n → X[j]? = some y → p y = false) : IdxO p X (-1) := .inl ⟨rfl, fun x hx => by
  obtain ⟨i, hi⟩ := List.getElem?_of_mem hx
  exact h i x (by have := (List.getElem?_eq_some_iff.1 hi).1; omega) hi⟩
theorem SlotO.rng {w : World} {b o n : Nat} {X : List Mg} (R : RowAt encG 6 w b o X) (k : Nat) (x : Mg) (hx : X[k]? = some x) : w.rangeAt b (o + k * 6) (encG x) := fun j v hj => R k x hx j v hj
theorem take_nextO {X : List Mg} {k : Nat} {x : Mg} (h : X[k]? = some x) : X.take (k + 1) = X.take k ++ [x] := by rw [List.take_add_one, h]; rfl
/-- What the row is while DeleteFunc goes through it: behind i and j. -/
structure DelO (p : Mg → Bool) (X M : List Mg) (n i j : Nat) : Prop where
  len : M.length = n
  ij : i < j
  jn : j ≤ n
  lo : M.take i = (X.take j).filter fun x => !p x
  hi : M.drop j = X.drop j
theorem DelO.start {p : Mg → Bool} {X : List Mg} {n k : Nat} {x : Mg} (hn : X.length = n) (hx : X[k]? = some x) (hp : p x = true) (h : ∀ j y, j < k → X[j]? = some y → p y = false) : DelO p X X n k (k + 1) := by
  have hk := (List.getElem?_eq_some_iff.1 hx).1
  refine ⟨hn, Nat.lt_succ_self _, by omega, ?_, rfl⟩
  rw [take_nextO hx, List.filter_append]
  have e : (X.take k).filter (fun x => !p x) = X.take k := List.filter_eq_self.2 fun y hy => by
    obtain ⟨j, hj⟩ := List.getElem?_of_mem hy
    rw [List.getElem?_take] at hj
    split at hj
    · rw [h j y (by assumption) hj]; rfl
    · cases hj
  rw [e]
  simp [hp]
theorem DelO.at_ {p : Mg → Bool} {X M : List Mg} {n i j : Nat} (h : DelO p X M n i j) {x : Mg} (hx : X[j]? = some x) : M[j]? = some x := by
  have e1 : (M.drop j)[0]? = (X.drop j)[0]? := by rw [h.hi]
  rw [List.getElem?_drop, List.getElem?_drop, Nat.add_zero] at e1
  rw [e1]; exact hx
theorem DelO.keep {p : Mg → Bool} {X M : List Mg} {n i j : Nat} (h : DelO p X M n i j) {x : Mg} (hx : X[j]? = some x) (hp : p x = false) (hj : j < n) : DelO p X (M.set i x) n (i + 1) (j + 1) := by
  have hij := h.ij
  have hl := h.len
  refine ⟨by rw [List.length_set]; exact hl, by omega, by omega, ?_, ?_⟩
  · have e : (M.set i x)[i]? = some x := by rw [List.getElem?_set, if_pos rfl, if_pos (by omega)]
    rw [take_nextO e, take_nextO hx, List.filter_append, ← h.lo, List.take_set_of_le (Nat.le_refl _)]
    simp [hp]
  · rw [List.drop_set_of_lt (by omega)]
    have := congrArg (List.drop 1) h.hi
    rw [List.drop_drop, List.drop_drop] at this
    exact this
theorem DelO.skip {p : Mg → Bool} {X M : List Mg} {n i j : Nat} (h : DelO p X M n i j) {x : Mg} (hx : X[j]? = some x) (hp : p x = true) (hj : j < n) : DelO p X M n i (j + 1) := by
  refine ⟨h.len, Nat.lt_succ_of_lt h.ij, by omega, ?_, ?_⟩
  · rw [take_nextO hx, List.filter_append, ← h.lo]
    simp [hp]
  · have := congrArg (List.drop 1) h.hi
    rw [List.drop_drop, List.drop_drop] at this
    exact this
theorem DelO.end_ {p : Mg → Bool} {X M : List Mg} {n i : Nat} (h : DelO p X M n i n) (hn : X.length = n) : M.take i = X.filter (fun x => !p x) ∧ i = (X.filter fun x => !p x).length := by
  have e := h.lo
  rw [List.take_of_length_le (l := X) (by omega)] at e
  refine ⟨e, ?_⟩
  rw [← e, List.length_take, h.len]
  have := h.ij
  omega
theorem MRow.rng0 {w : World} {b off n cap : Nat} {X : List Mg} (h : MRow w b off n cap X) (k : Nat) (x : Mg) (hx : X[k]? = some x) : w.rangeAt b (off + k * 6) (encG x) := fun j v hj => by
  have hc : j < 6 := by have := (List.getElem?_eq_some_iff.1 hj).1; rwa [encG_length] at this
  have := h.cell (k * 6 + j) v (by rw [flat_at encG 6 encG_length X k x hx j hc]; exact hj)
  rw [← Nat.add_assoc] at this
  exact this
theorem MRow.there6 {w : World} {b off n cap : Nat} {X : List Mg} (h : MRow w b off n cap X) (i : Nat) (hi : i < n) : w.there b (off + i * 6) 6 := fun j hj => ⟨by
  have := h.le
  have := h.there (i * 6 + j) (by omega)
  rw [← Nat.add_assoc] at this
  exact this, h.free _⟩
theorem MRow.put {w : World} {b off n cap : Nat} {X : List Mg} (h : MRow w b off n cap X) (i : Nat) (x y : Mg) (hx : X[i]? = some x) : MRow (w.setCells b (off + i * 6) (encG y)) b off n cap (X.set i y) := by
  have hi : i < X.length := (List.getElem?_eq_some_iff.1 hx).1
  have e : ∀ z : Mg, (X.set i z)[i]? = some z := fun z => by rw [List.getElem?_set]; simp [hi]
  have h1 := h.set i 0 x { x with f := y.f } (.int .i64 y.f) hx (by decide) rfl (by intro d hd; match d, hd with | 0, hd => exact absurd rfl hd | 1, _ => rfl | 2, _ => rfl | 3, _ => rfl | 4, _ => rfl | 5, _ => rfl | d + 6, _ => rfl)
  have h2 := h1.set i 1 _ { x with f := y.f, q := y.q } (.int .u32 y.q) (e _) (by decide) rfl (by intro d hd; match d, hd with | 1, hd => exact absurd rfl hd | 0, _ => rfl | 2, _ => rfl | 3, _ => rfl | 4, _ => rfl | 5, _ => rfl | d + 6, _ => rfl)
  rw [List.set_set] at h2
  have h3 := h2.set i 2 _ { x with f := y.f, q := y.q, s := y.s } (.int .u64 y.s) (e _) (by decide) rfl (by intro d hd; match d, hd with | 2, hd => exact absurd rfl hd | 0, _ => rfl | 1, _ => rfl | 3, _ => rfl | 4, _ => rfl | 5, _ => rfl | d + 6, _ => rfl)
  rw [List.set_set] at h3
  have h4 := h3.set i 3 _ { x with f := y.f, q := y.q, s := y.s, v := y.v } (.int .i64 y.v) (e _) (by decide) rfl (by intro d hd; match d, hd with | 3, hd => exact absurd rfl hd | 0, _ => rfl | 1, _ => rfl | 2, _ => rfl | 4, _ => rfl | 5, _ => rfl | d + 6, _ => rfl)
  rw [List.set_set] at h4
  have h5 := h4.set i 4 _ { y with text := x.text } (.slice y.a y.dl y.dc) (e _) (by decide) rfl (by intro d hd; match d, hd with | 4, hd => exact absurd rfl hd | 0, _ => rfl | 1, _ => rfl | 2, _ => rfl | 3, _ => rfl | 5, _ => rfl | d + 6, _ => rfl)
  rw [List.set_set] at h5
  have h6 := h5.set i 5 _ y (.string y.text) (e _) (by decide) rfl (by intro d hd; match d, hd with | 5, hd => exact absurd rfl hd | 0, _ => rfl | 1, _ => rfl | 2, _ => rfl | 3, _ => rfl | 4, _ => rfl | d + 6, _ => rfl)
  rw [List.set_set] at h6
  exact h6

set_option maxHeartbeats 4000000 in
theorem oidx {w : World} {s : Sl} {X : List Mg} (h : SlotAt w s X) (hn : s.n ≤ 200000) (c : Nat) (p : Mg → Bool)
    (hp : ∀ (W : World) (x : Mg), Below w.heap.size w W → x ∈ X → Calls Try.prog 74 (#[.pointer (some ⟨c, 0, none⟩), .agg #[.int .i64 x.f, .int .u32 x.q, .int .u64 x.s, .int .i64 x.v, .slice x.a x.dl x.dc, .string x.text]]) W fun e w' => e = .returned (.bool (p x)) ∧ Below W.heap.size W w') :
    Calls Try.prog 114 #[s.v, .func (.func 74) #[.pointer (some ⟨c, 0, none⟩)] #[]] w fun e w' => ∃ z, e = .returned (.int .i64 z) ∧ IdxO p X z ∧ Below w.heap.size w w' := by
  have hlen := h.len
  have HL := Lib.hid h.lst
  obtain ⟨ao, n, cap⟩ := s
  have HP := Lib.hid hp
  simp only at hlen hn
  have HLEN := Lib.hid hlen
  change Hid (Lst encG 6 w ao n X) at HL
  show Calls Try.prog 114 #[.slice ao n cap, .func (.func 74) #[.pointer (some ⟨c, 0, none⟩)] #[]] w _
  clear h hp hlen
  go_enter Try.func114, Try.ntmps114
  go_wp2
  go_loopw [8] (fun si wr => ∃ k : Nat, k ≤ n ∧ si = .int .i64 k ∧ Aside (Below w.heap.size w wr) ∧ Aside (∀ j y, j < k → X[j]? = some y → p y = false)) (fun si _ => n - (intOf si).toNat)
  case atStart => exact ⟨0, Nat.zero_le _, rfl, Below.refl _ w, fun j y hj => absurd hj (Nat.not_lt_zero _)⟩
  case round =>
    obtain ⟨k, hk, rfl, BW, A⟩ := hrel
    by_cases hlt : k < n
    · have hil : k < X.length := by rw [HLEN.out]; omega
      obtain ⟨b, o, rfl, R⟩ := (HL.out.below BW.out).src (by omega)
      have hx := List.getElem?_eq_getElem hil
      have hm := List.getElem_mem hil
      generalize X[k] = x at hx hm
      have HR := Lib.hid (SlotO.rng (n := n) R k x hx)
      have C := HP.out wr x BW.out hm
      have HX := Lib.hid hx
      clear R hx hm hil
      cases hq : p x with
      | true =>
        rw [hq] at C
        have HQ := Lib.hid hq
        clear hq
        go_wp2_with (first | (with_reducible refine load_mgx rfl (.tmp 14) rfl b (o + k * 6) x rfl HR.out ?_) | (go_at_call 74; refine C.mono ?_; rintro e w' ⟨rfl, hb'⟩))
        go_ret
        exact ⟨_, rfl, .inr ⟨k, x, rfl, HX.out, HQ.out, A.out⟩, BW.out.trans (hb'.mono BW.out.size)⟩
      | false =>
        rw [hq] at C
        have HQ := Lib.hid hq
        clear hq
        go_wp2_with (first | (with_reducible refine load_mgx rfl (.tmp 14) rfl b (o + k * 6) x rfl HR.out ?_) | (go_at_call 74; refine C.mono ?_; rintro e w' ⟨rfl, hb'⟩))
        go_roundw
        case rel =>
          refine ⟨k + 1, by omega, by go_num, BW.out.trans (hb'.mono BW.out.size), (show Aside _ from fun j y hj hy => ?_)⟩
          by_cases e : j = k
          · subst e
            rw [HX.out] at hy
            cases hy
            exact HQ.out
          · exact A.out j y (by omega) hy
        case measure => simp [intOf]; omega
    · obtain rfl : k = n := by omega
      go_wp2
      go_ret
      exact ⟨_, rfl, IdxO.none HLEN.out A.out, BW.out⟩

set_option maxHeartbeats 8000000 in
theorem odel {w : World} {b off n cap : Nat} {X : List Mg} (h : MRow w b off n cap X) (hn : n ≤ 200000) (c : Nat) (p : Mg → Bool)
    (hp : ∀ (W : World) (x : Mg), w.grownBy W (some b) → x ∈ X → Calls Try.prog 74 (#[.pointer (some ⟨c, 0, none⟩), .agg #[.int .i64 x.f, .int .u32 x.q, .int .u64 x.s, .int .i64 x.v, .slice x.a x.dl x.dc, .string x.text]]) W fun e w' => e = .returned (.bool (p x)) ∧ Below W.heap.size W w') :
    Calls Try.prog 72 #[.slice (some ⟨b, off, none⟩) n cap, .func (.func 74) #[.pointer (some ⟨c, 0, none⟩)] #[]] w fun e w' => ∃ m, m = (X.filter fun x => !p x).length ∧ e = .returned (.slice (some ⟨b, off, none⟩) m cap) ∧ MRow w' b off m cap (X.filter fun x => !p x) ∧ w.grownBy w' (some b) := by
  have K := oidx (s := ⟨some ⟨b, off, none⟩, n, cap⟩) (.inr ⟨b, off, rfl, h⟩) hn c p fun W x hb hx => hp W x (grownBelow13 hb _) hx
  change Calls Try.prog 114 #[.slice (some ⟨b, off, none⟩) n cap, .func (.func 74) #[.pointer (some ⟨c, 0, none⟩)] #[]] w _ at K
  have HLEN := Lib.hid h.len
  have hle := h.le
  have hmx := h.max
  have HH := Lib.hid h
  have HP := Lib.hid hp
  unfold maxLen at hmx
  clear h hp
  go_enter Try.func72, Try.ntmps72
  go_wp2_with fail
  refine K.mono ?_
  rintro e w1 ⟨z, rfl, hz, hb⟩
  have H1 := Lib.hid (HH.out.below hb)
  have G1 := Lib.hid (grownBelow13 hb (some b))
  clear K HH hb
  rcases hz with ⟨rfl, ha⟩ | ⟨k, x, rfl, hx, hpx, hlo⟩
  · have e : X.filter (fun x => !p x) = X := List.filter_eq_self.2 fun y hy => by rw [ha y hy]; rfl
    have HE := Lib.hid e
    clear ha e
    go_wp2
    go_ret
    exact ⟨n, by rw [HE.out, HLEN.out], rfl, by rw [HE.out]; exact H1.out, G1.out⟩
  · have D0 := DelO.start HLEN.out hx hpx hlo
    have hkn := D0.jn
    have hk1 : (((k : Nat) : Int) == -1) = false := beq_eq_false_iff_ne.2 (by omega)
    have D0 := Lib.hid D0
    clear hx hpx hlo
    go_wp2
    go_loopw [5, 6] (fun si sj wr => ∃ (i j : Nat) (M : List Mg), j ≤ n ∧ i ≤ n ∧ si = .int .i64 i ∧ sj = .int .i64 j ∧ Aside (DelO p X M n i j) ∧ Aside (MRow wr b off n cap M) ∧ Aside (w.grownBy wr (some b))) (fun _ sj _ => n - (intOf sj).toNat)
    case atStart => exact ⟨k, k + 1, X, by omega, by omega, rfl, by go_num, D0.out, H1.out, G1.out⟩
    case round =>
      obtain ⟨i, j, M, hj, hi, rfl, rfl, D, R, G⟩ := hrel
      clear H1 G1 D0 hk1
      have hij := D.out.ij
      by_cases hlt : j < n
      · have hil : j < X.length := by rw [HLEN.out]; omega
        have hx := List.getElem?_eq_getElem hil
        have hm := List.getElem_mem hil
        generalize X[j] = x at hx hm
        have HR := Lib.hid (R.out.rng0 j x (D.out.at_ hx))
        have HX := Lib.hid hx
        have hin : i < n := by omega
        have B4 := ((Grw.refl wr).alloc (.cells #[.int .i64 x.f, .int .u32 x.q, .int .u64 x.s, .int .i64 x.v, .slice x.a x.dl x.dc, .string x.text] 47)).below
        have C := HP.out _ x (grownTr13 G.out (grownBelow13 B4 _)) hm
        have R4 := Lib.hid (R.out.below B4)
        have G4 := Lib.hid (grownTr13 G.out (grownBelow13 B4 (some b)))
        have V4 := Lib.hid (Own.new wr 47 #[.int .i64 x.f, .int .u32 x.q, .int .u64 x.s, .int .i64 x.v, .slice x.a x.dl x.dc, .string x.text])
        clear B4 hm hx hil
        cases hq : p x with
        | true =>
          rw [hq] at C
          have HQ := Lib.hid hq
          clear hq
          go_wp2_with (first | (with_reducible refine load_mgx rfl (.tmp 24) rfl b (off + j * 6) x rfl HR.out ?_) | fail)
          refine C.mono ?_
          rintro e w5 ⟨rfl, B5⟩
          have R5 := Lib.hid (R4.out.below B5)
          have G5 := Lib.hid (grownTr13 G4.out (grownBelow13 B5 (some b)))
          have D5 := Lib.hid (D.out.skip HX.out HQ.out hlt)
          clear C R4 G4 V4 B5 HR R G D
          go_wp2
          go_roundw
          case rel => exact ⟨i, j + 1, M, by omega, by omega, rfl, by go_num, D5.out, R5.out, G5.out⟩
          case measure => simp [intOf]; omega
        | false =>
          rw [hq] at C
          have HQ := Lib.hid hq
          clear hq
          go_wp2_with (first | (with_reducible refine load_mgx rfl (.tmp 24) rfl b (off + j * 6) x rfl HR.out ?_) | fail)
          refine C.mono ?_
          rintro e w5 ⟨rfl, B5⟩
          have R5 := R4.out.below B5
          have G5 := Lib.hid (grownTr13 G4.out (grownBelow13 B5 (some b)))
          have V5 := V4.out.below B5 V4.out.lt
          have T5 := Lib.hid (R5.there6 i hin)
          have hMi : i < M.length := by rw [D.out.len]; exact hin
          have R6 := Lib.hid (R5.put i M[i] x (List.getElem?_eq_getElem hMi))
          have G6 := Lib.hid (grownTr13 G5.out (grownCells12 b (encG x) (off + i * 6) w5))
          have D6 := Lib.hid (D.out.keep HX.out HQ.out hlt)
          have L5 := Lib.hid (show w5.rangeAt wr.heap.size 0 (encG x) from fun q v hv => by rw [Nat.zero_add]; exact V5.at_ q v (by rw [List.getElem?_toArray]; exact hv))
          clear C R4 G4 V4 V5 B5 HR R G D R5 G5 hMi
          generalize wr.heap.size = vb at *
          go_wp2_with (first | (with_reducible refine load_mgx rfl (.tmp 7) rfl vb 0 x rfl L5.out ?_) | (with_reducible refine store_mgx rfl (.tmp 33) (.tmp 32) rfl b (off + i * 6) x rfl rfl T5.out ?_))
          go_roundw
          case rel => exact ⟨i + 1, j + 1, M.set i x, by omega, by omega, by go_num, by go_num, D6.out, R6.out, G6.out⟩
          case measure => simp [intOf]; omega
      · obtain rfl : j = n := by omega
        obtain ⟨e1, e2⟩ := D.out.end_ HLEN.out
        have R1 := R.out.take i (Nat.le_of_lt hij)
        rw [e1] at R1
        obtain ⟨vs, hv1, hv2⟩ := run_clear_h (R.out.drop i (Nat.le_of_lt hij)) (j - i) (cap - i) (Nat.le_refl _)
        have R2 := R1.cells (off + i * 6) vs (by rw [hv1]; omega) (.inr (Nat.le_refl _))
        have R2 := Lib.hid R2
        have G2 := Lib.hid (grownTr13 G.out (grownCells12 b vs (off + i * 6) wr))
        have HE := Lib.hid e2
        have hic : ¬ cap = i := by omega
        have hic2 : (i : Int) ≤ (cap : Int) := by omega
        clear e1 e2 R1 hv1 R G D
        go_wp2
        go_ret
        exact ⟨i, HE.out, rfl, R2.out, G2.out⟩

theorem IdxO.nil {p : Mg → Bool} {z : Int} (h : IdxO p [] z) : z = -1 := by
  rcases h with ⟨rfl, _⟩ | ⟨k, x, _, hx, _⟩
  · rfl
  · simp at hx

set_option maxHeartbeats 2000000 in
/-- DeleteFunc at whatever slice of promises. -/
theorem odelS {w : World} {s : Sl} {X : List Mg} (h : SlotAt w s X) (hn : s.n ≤ 200000) (c : Nat) (p : Mg → Bool)
    (hp : ∀ (W : World) (x : Mg), w.grownBy W s.v.ownBlock → x ∈ X → Calls Try.prog 74 (#[.pointer (some ⟨c, 0, none⟩), .agg #[.int .i64 x.f, .int .u32 x.q, .int .u64 x.s, .int .i64 x.v, .slice x.a x.dl x.dc, .string x.text]]) W fun e w' => e = .returned (.bool (p x)) ∧ Below W.heap.size W w') :
    Calls Try.prog 72 #[s.v, .func (.func 74) #[.pointer (some ⟨c, 0, none⟩)] #[]] w fun e w' => ∃ s1 : Sl, e = .returned s1.v ∧ SlotAt w' s1 (X.filter fun x => !p x) ∧ s1.a = s.a ∧ s1.n ≤ s.n ∧ w.grownBy w' s.v.ownBlock := by
  rcases h with ⟨rfl, rfl⟩ | ⟨b, off, e, h⟩
  · have K := oidx (s := slNil) (X := []) (SlotAt.nil w) hn c p fun W x hb hx => by cases hx
    change Calls Try.prog 114 #[.slice none 0 0, .func (.func 74) #[.pointer (some ⟨c, 0, none⟩)] #[]] w _ at K
    show Calls Try.prog 72 #[.slice none 0 0, .func (.func 74) #[.pointer (some ⟨c, 0, none⟩)] #[]] w _
    clear hp hn
    go_enter Try.func72, Try.ntmps72
    go_wp2_with fail
    refine K.mono ?_
    rintro e w1 ⟨z, rfl, hz, hb⟩
    have hz := hz.nil
    subst hz
    clear K
    go_wp2
    go_ret
    exact ⟨slNil, rfl, SlotAt.nil _, rfl, Nat.le_refl _, grownBelow13 hb _⟩
  · obtain ⟨ao, n, cap⟩ := s
    simp only at e h hn
    subst e
    refine Calls.mono (odel h hn c p fun W x hg hx => hp W x hg hx) ?_
    rintro e w' ⟨m, hm, rfl, hr, hg⟩
    exact ⟨⟨some ⟨b, off, none⟩, m, cap⟩, rfl, .inr ⟨b, off, rfl, hr⟩, rfl, by show m ≤ n; rw [hm, ← h.len]; exact List.length_filter_le _ _, hg⟩
end Go.Proofs.Ytfocjcdfpnbkjaa

/- delivered, Rest, Dones. -/
set_option linter.unusedVariables false
set_option maxRecDepth 100000
set_option linter.unusedSimpArgs false
namespace Go.Proofs.Ytfocjcdfpnbkjaa
open Go.RowKit Go.Sort Go.Shelf

theorem cell_t1 {w : World} {g gh gz : Nat} {O : Od} (h : Own w g 61 (oC gh gz O).toArray) (p : Nat) (hp : p < 64) : w.cell? ⟨g, 4 + p * 2 + 1, none⟩ = some (.int .u32 (O.dn p : Int)) := cell_tally h p hp 1 _ rfl
set_option maxHeartbeats 4000000 in
theorem odelivered_core {w : World} {g gh gz : Nat} {O : Od} (h : Own w g 61 (oC gh gz O).toArray) (p : Nat) (hp : p < 64) (q s v : Int) (a : Option Addr) (dl dc : Nat) (text : ByteArray) :
    Calls Try.prog 74 #[.pointer (some ⟨g, 0, none⟩), .agg #[.int .i64 (p : Int), .int .u32 q, .int .u64 s, .int .i64 v, .slice a dl dc, .string text]] w fun e w' => e = .returned (.bool (decide (q ≤ (O.dn p : Int)))) ∧ Below w.heap.size w w' := by
  have HB := Lib.hid ((Grw.refl w).alloc (.cells #[.int .i64 (p : Int), .int .u32 q, .int .u64 s, .int .i64 v, .slice a dl dc, .string text] 47)).below
  have t1 := cell_t1 (h.below HB.out h.lt) p hp
  have hp' : (p : Int) < 64 := by omega
  generalize O.dn p = d at *
  clear h
  go_enter Try.func74, Try.ntmps74
  go_upto_region 1 with fail
  go_quiet (fail)
  go_wp2
  go_ret
  exact ⟨rfl, HB.out.trans (((Grw.refl _).drewN _).below.mono HB.out.size)⟩
theorem odelivered {w : World} {g gh gz : Nat} {O : Od} (h : Own w g 61 (oC gh gz O).toArray) (p : Nat) (hp : p < 64) (x : Mg) (hx : x.f = (p : Int)) :
    Calls Try.prog 74 #[.pointer (some ⟨g, 0, none⟩), .agg #[.int .i64 x.f, .int .u32 x.q, .int .u64 x.s, .int .i64 x.v, .slice x.a x.dl x.dc, .string x.text]] w fun e w' => e = .returned (.bool (decide (x.q ≤ (O.dn x.f.toNat : Int)))) ∧ Below w.heap.size w w' := by
  rw [hx, Int.toNat_natCast]
  exact odelivered_core h p hp x.q x.s x.v x.a x.dl x.dc x.text
section
variable {w : World} {E : Nat → Prop} {g N : Nat} {O : Od}
/-- What Rest answers. -/
def RestSaid (w : World) (O : Od) (e : Ending) (w' : World) : Prop := ∃ s Y, e = .returned (.slice s.a s.n s.c) ∧ OutR w' w.heap.size s Y ∧ IsRest O (Y.map strip) ∧ Below w.heap.size w w' ∧ s.n ≤ 64000
theorem catF_self {X : Nat → List Mg} (h : ∀ p, (X p).map strip = X p) (kk : K) : ∀ k, (catF X kk k).map strip = catF X kk k
  | 0 => rfl
  | k + 1 => by
    unfold catF
    rw [List.map_append, catF_self h kk k, filter_strip, h k]
theorem left_strip (O : Od) (Y : List Mg) : (Y.filter (leftM O)).map strip = (Y.map strip).filter (leftM O) := by
  rw [List.filter_map]; rfl
set_option maxHeartbeats 8000000 in
theorem orest (h : ORep w E g N O) (hN : N ≤ 1000) :
    Calls Try.prog 21 #[.pointer (some ⟨g, 0, none⟩)] w (RestSaid w O) := by
  obtain ⟨gh, gz, F, zs, h⟩ := h.ex
  have c0 := h.c0
  have KA := hs_above h.hold hN ⟨0, -1⟩
  have HR := Lib.hid (R_strip' h.hold)
  have HBD := Lib.hid (fun p hp => h.hold.bnd p hp)
  have HO := Lib.hid h
  simp only at KA
  clear h
  go_enter Try.func21, Try.ntmps21
  go_wp2_with fail
  refine KA.mono ?_
  rintro e w1 ⟨s, Y, rfl, hO, hS, hB⟩
  rw [catF_self HR.out] at hS
  have hlg := HO.out.lim g HO.out.eg
  have ho1 := HO.out.own.below hB hlg
  have hfew : s.n ≤ 64000 := by
    have h1 : Y.length = s.n := hO.slot.len
    have h2 := hS.fil.length
    rw [List.length_map] at h2
    have h3 := catF_len O.S.R ⟨0, -1⟩ N (fun p hp => by have := HBD.out p hp; unfold Hs.cnt at this; omega) 64 (Nat.le_refl _)
    have h4 : 64 * N ≤ 64 * 1000 := Nat.mul_le_mul (Nat.le_refl _) hN
    omega
  have KD := odelS hO.slot (by omega) g (fun x => decide (x.q ≤ (O.dn x.f.toNat : Int))) (fun W x hg hx => by
    have hxm : strip x ∈ catF O.S.R ⟨0, -1⟩ 64 := (hS.fil.mem (strip x)).1 (List.mem_map_of_mem hx)
    obtain ⟨p, hp, hm, _⟩ := catF_mem O.S.R ⟨0, -1⟩ (strip x) 64 hxm
    have hf := zlists O HO.out.ok p hp (strip x) hm
    refine odelivered ((hg.block g ho1.lt ?_).trans ho1) p hp x hf
    intro e
    obtain ⟨z, hz, e2⟩ := Sl.block e.symm
    have := hO.new z hz
    omega)
  have HA := Lib.hid (And.intro hO (And.intro hS (And.intro hB hfew)))
  obtain ⟨sa, sn, sc⟩ := s
  unfold Sl.v at KD
  simp only at KD
  clear KA hO hS hB hfew c0 ho1
  go_wp2_with fail
  refine KD.mono ?_
  rintro e w2 ⟨s1, rfl, hs1, ha, hn, hg⟩
  obtain ⟨hO, hS, hB, hfew⟩ := HA.out
  have hsz := hB.size
  have hnew : ∀ k, some k = (Value.slice sa sn sc).ownBlock → w.heap.size ≤ k := fun k hk => by
    obtain ⟨z, hz, e2⟩ := Sl.block (s := ⟨sa, sn, sc⟩) hk.symm
    have := hO.new z hz
    omega
  have HFIN : Hid (OutR w2 w.heap.size s1 (Y.filter (leftM O)) ∧ IsRest O ((Y.filter (leftM O)).map strip) ∧ Below w.heap.size w w2 ∧ s1.n ≤ 64000) := Lib.hid (by
    refine ⟨⟨hs1, fun x hx => hO.new x (by rw [← ha]; exact hx), fun x hx => ?_⟩, ?_, hB.grown hg hsz fun k hk => hnew k hk.symm, by have h1 : s1.n ≤ sn := hn; have h2 : sn ≤ 64000 := hfew; omega⟩
    · have h1 := hO.deps x (List.mem_filter.1 hx).1
      refine h1.kept fun ad e => hg.block _ (h1.lt ad e) fun e2 => ?_
      obtain ⟨z, hz, e3⟩ := Sl.block (s := ⟨sa, sn, sc⟩) e2.symm
      obtain ⟨cur, hc⟩ := hO.slot.typ z hz
      exact h1.ne ad e hc e3.symm
    · rw [left_strip]
      exact IsRest.of hS)
  clear KD hs1 ha hn hg hO hS hB hfew HA
  go_wp2
  go_ret
  exact ⟨s1, _, rfl, HFIN.out⟩
end
end Go.Proofs.Ytfocjcdfpnbkjaa
