/- slices.IndexFunc, ContainsFunc, DeleteFunc at rows of promises: with a closure, and with the method value 'n.covers'. (Written by gen_hzfind.py.) -/
import Derived.Test.YtfocjcdfpnbkjaaHzRow
import Derived.Deep.DeepCutAuto
import Derived.Deep.RegionWith
import Derived.BigQuiet
import Derived.StillTailTactics
import Derived.Shelf.Abstract
import Derived.Lib.SliceRun
set_option linter.unusedVariables false
set_option linter.unusedSimpArgs false
namespace Go.Proofs.Ytfocjcdfpnbkjaa
open Go.RowKit Go.Sort Go.Shelf

theorem pm_size : (Try.prog.info? 158).map (·.size) = some 3 := by kernel_rfl
/-- A promise, as a value. -/
theorem load_pm {ops : Array Oper} {rest : List Oper} {o : Oper} {A : Act} {w : World} {Q : Exit → Act → World → Prop} (hgd : o.guard = none) (x : Operand) (ho : o.op = .load 158 x)
    (b q : Nat) (a : Pm) (hx : A.eval x = .pointer (some ⟨b, q, none⟩)) (hc : w.rangeAt b q (encP a))
    (h : wpList Try.prog ops Q rest (A.put o.dst (.agg #[.int .i64 a.frm, .int .u64 (a.st : Int), .int .u32 (a.sn : Int)])) w) : wpList Try.prog ops Q (o :: rest) A w :=
  wpList_load_mid hgd 158 x ho b q hx (encP a) _ hc Try.underlying158 rfl pm_size h
theorem store_pm {ops : Array Oper} {rest : List Oper} {o : Oper} {A : Act} {w : World} {Q : Exit → Act → World → Prop} (hgd : o.guard = none) (x y : Operand) (ho : o.op = .store 158 x y)
    (g q : Nat) (a : Pm) (hx : A.eval x = .pointer (some ⟨g, q, none⟩)) (hy : A.eval y = .agg #[.int .i64 a.frm, .int .u64 (a.st : Int), .int .u32 (a.sn : Int)])
    (hg : w.there g q 3) (h : wpList Try.prog ops Q rest (A.put o.dst undef) (w.setCells g q (encP a))) : wpList Try.prog ops Q (o :: rest) A w :=
  wpList_store_mid hgd 158 x y ho g q _ hx hy hg pm_size (by simp [Value.oneCell']) h
/-- Where the first one stands that p says. -/
def IdxIs (p : Pm → Bool) (X : List Pm) (z : Int) : Prop := (z = -1 ∧ ∀ x ∈ X, p x = false) ∨ ∃ k x, z = ((k : Nat) : Int) ∧ X[k]? = some x ∧ p x = true ∧ ∀ j y, j < k → X[j]? = some y → p y = false
theorem IdxIs.none {p : Pm → Bool} {X : List Pm} {n : Nat} (hn : X.length = n) (h : ∀ j y, j < n → X[j]? = some y → p y = false) : IdxIs p X (-1) := .inl ⟨rfl, fun x hx => by
  obtain ⟨i, hi⟩ := List.getElem?_of_mem hx
  exact h i x (by have := (List.getElem?_eq_some_iff.1 hi).1; omega) hi⟩
theorem ZSlot.rng {w : World} {b o n : Nat} {X : List Pm} (R : RowAt encP 3 w b o X) (k : Nat) (x : Pm) (hx : X[k]? = some x) : w.rangeAt b (o + k * 3) (encP x) := fun j v hj => R k x hx j v hj
theorem take_next {X : List Pm} {k : Nat} {x : Pm} (h : X[k]? = some x) : X.take (k + 1) = X.take k ++ [x] := by rw [List.take_add_one, h]; rfl
/-- What the row is while DeleteFunc goes through it: behind i and j. -/
structure Del (p : Pm → Bool) (X M : List Pm) (n i j : Nat) : Prop where
  len : M.length = n
  ij : i < j
  jn : j ≤ n
  lo : M.take i = (X.take j).filter fun x => !p x
  hi : M.drop j = X.drop j
theorem Del.start {p : Pm → Bool} {X : List Pm} {n k : Nat} {x : Pm} (hn : X.length = n) (hx : X[k]? = some x) (hp : p x = true) (h : ∀ j y, j < k → X[j]? = some y → p y = false) : Del p X X n k (k + 1) := by
  have hk := (List.getElem?_eq_some_iff.1 hx).1
  refine ⟨hn, Nat.lt_succ_self _, by omega, ?_, rfl⟩
  rw [take_next hx, List.filter_append]
  have e : (X.take k).filter (fun x => !p x) = X.take k := List.filter_eq_self.2 fun y hy => by
    obtain ⟨j, hj⟩ := List.getElem?_of_mem hy
    rw [List.getElem?_take] at hj
    split at hj
    · rw [h j y (by assumption) hj]; rfl
    · cases hj
  rw [e]
  simp [hp]
theorem Del.at_ {p : Pm → Bool} {X M : List Pm} {n i j : Nat} (h : Del p X M n i j) {x : Pm} (hx : X[j]? = some x) : M[j]? = some x := by
  have e1 : (M.drop j)[0]? = (X.drop j)[0]? := by rw [h.hi]
  rw [List.getElem?_drop, List.getElem?_drop, Nat.add_zero] at e1
  rw [e1]; exact hx
theorem Del.keep {p : Pm → Bool} {X M : List Pm} {n i j : Nat} (h : Del p X M n i j) {x : Pm} (hx : X[j]? = some x) (hp : p x = false) (hj : j < n) : Del p X (M.set i x) n (i + 1) (j + 1) := by
  have hij := h.ij
  have hl := h.len
  refine ⟨by rw [List.length_set]; exact hl, by omega, by omega, ?_, ?_⟩
  · have e : (M.set i x)[i]? = some x := by rw [List.getElem?_set, if_pos rfl, if_pos (by omega)]
    rw [take_next e, take_next hx, List.filter_append, ← h.lo, List.take_set_of_le (Nat.le_refl _)]
    simp [hp]
  · rw [List.drop_set_of_lt (by omega)]
    have := congrArg (List.drop 1) h.hi
    rw [List.drop_drop, List.drop_drop] at this
    exact this
theorem Del.skip {p : Pm → Bool} {X M : List Pm} {n i j : Nat} (h : Del p X M n i j) {x : Pm} (hx : X[j]? = some x) (hp : p x = true) (hj : j < n) : Del p X M n i (j + 1) := by
  refine ⟨h.len, Nat.lt_succ_of_lt h.ij, by omega, ?_, ?_⟩
  · rw [take_next hx, List.filter_append, ← h.lo]
    simp [hp]
  · have := congrArg (List.drop 1) h.hi
    rw [List.drop_drop, List.drop_drop] at this
    exact this
theorem Del.end_ {p : Pm → Bool} {X M : List Pm} {n i : Nat} (h : Del p X M n i n) (hn : X.length = n) : M.take i = X.filter (fun x => !p x) ∧ i = (X.filter fun x => !p x).length := by
  have e := h.lo
  rw [List.take_of_length_le (l := X) (by omega)] at e
  refine ⟨e, ?_⟩
  rw [← e, List.length_take, h.len]
  have := h.ij
  omega
theorem grownTr13 {w w1 w2 : World} {o : Option Nat} (h : w.grownBy w1 o) (k : w1.grownBy w2 o) : w.grownBy w2 o :=
  ⟨k.os.trans h.os, k.tape.trans h.tape, k.output.trans h.output, Nat.le_trans h.size k.size, fun i hi hn => (k.block i (Nat.lt_of_lt_of_le hi h.size) hn).trans (h.block i hi hn)⟩
theorem grownBelow13 {w w' : World} (h : Below w.heap.size w w') (o : Option Nat) : w.grownBy w' o := ⟨h.os, h.tape, h.output, h.size, fun k hk _ => h.block k hk⟩
theorem ZRow.rng0 {w : World} {b n cap : Nat} {X : List Pm} (h : ZRow w b 0 n cap X) (k : Nat) (x : Pm) (hx : X[k]? = some x) : w.rangeAt b (k * 3) (encP x) := fun j v hj => by
  have hc : j < 3 := by have := (List.getElem?_eq_some_iff.1 hj).1; rwa [encP_length] at this
  have := h.cell (k * 3 + j) v (by rw [flat_at encP 3 encP_length X k x hx j hc]; exact hj)
  rw [Nat.zero_add] at this
  exact this
theorem ZRow.there3 {w : World} {b off n cap : Nat} {X : List Pm} (h : ZRow w b off n cap X) (i : Nat) (hi : i < n) : w.there b (off + i * 3) 3 := fun j hj => ⟨by
  have := h.le
  have := h.there (i * 3 + j) (by omega)
  rw [← Nat.add_assoc] at this
  exact this, h.free _⟩

set_option maxHeartbeats 4000000 in
theorem zidxA {w : World} {s : ZSl} {X : List Pm} (h : ZSlot w s X) (hn : s.n ≤ 200000) (fn : Nat) (lb : Array Value) (eg : ∀ args w, (callFunc fn args).run Try.prog w = .ok (.enter fn args) w) (p : Pm → Bool)
    (hp : ∀ (W : World) (x : Pm), Below w.heap.size w W → x ∈ X → Calls Try.prog fn (#[.agg #[.int .i64 x.frm, .int .u64 (x.st : Int), .int .u32 (x.sn : Int)]] ++ lb) W fun e w' => e = .returned (.bool (p x)) ∧ Below W.heap.size W w') :
    Calls Try.prog 142 #[s.v, .func (.func fn) #[] lb] w fun e w' => ∃ z, e = .returned (.int .i64 z) ∧ IdxIs p X z ∧ Below w.heap.size w w' := by
  have hlen := h.len
  have HL := Lib.hid h.lst
  obtain ⟨ao, n, cap⟩ := s
  have HP := Lib.hid hp
  simp only at hlen hn
  have HLEN := Lib.hid hlen
  change Hid (Lst encP 3 w ao n X) at HL
  show Calls Try.prog 142 #[.slice ao n cap, .func (.func fn) #[] lb] w _
  clear h hp hlen
  go_enter Try.func142, Try.ntmps142
  go_wp2
  go_loopw [8] (fun si wr => ∃ k : Nat, k ≤ n ∧ si = .int .i64 k ∧ Aside (Below w.heap.size w wr) ∧ Aside (∀ j y, j < k → X[j]? = some y → p y = false)) (fun si _ => n - (intOf si).toNat)
  case atStart => exact ⟨0, Nat.zero_le _, rfl, Below.refl _ w, fun j y hj => absurd hj (Nat.not_lt_zero _)⟩
  case round =>
    obtain ⟨k, hk, rfl, BW, A⟩ := hrel
    by_cases hlt : k < n
    · have hil : k < X.length := by rw [HLEN.out]; omega
      obtain ⟨b, o, rfl, R⟩ := (HL.out.below BW.out).src (by omega)
      have hx := List.getElem?_eq_getElem hil
      have hm := List.getElem_mem hil
      generalize X[k] = x at hx hm
      have HR := Lib.hid (ZSlot.rng (n := n) R k x hx)
      have C := HP.out wr x BW.out hm
      have HX := Lib.hid hx
      clear R hx hm hil
      cases hq : p x with
      | true =>
        rw [hq] at C
        have HQ := Lib.hid hq
        clear hq
        go_wp2_with (first | (with_reducible refine load_pm rfl (.tmp 14) rfl b (o + k * 3) x rfl HR.out ?_) | (go_at_fn fn; refine C.mono ?_; rintro e w' ⟨rfl, hb'⟩))
        go_ret
        exact ⟨_, rfl, .inr ⟨k, x, rfl, HX.out, HQ.out, A.out⟩, BW.out.trans (hb'.mono BW.out.size)⟩
      | false =>
        rw [hq] at C
        have HQ := Lib.hid hq
        clear hq
        go_wp2_with (first | (with_reducible refine load_pm rfl (.tmp 14) rfl b (o + k * 3) x rfl HR.out ?_) | (go_at_fn fn; refine C.mono ?_; rintro e w' ⟨rfl, hb'⟩))
        go_roundw
        case rel =>
          refine ⟨k + 1, by omega, by go_num, BW.out.trans (hb'.mono BW.out.size), (show Aside _ from fun j y hj hy => ?_)⟩
          by_cases e : j = k
          · subst e
            rw [HX.out] at hy
            cases hy
            exact HQ.out
          · exact A.out j y (by omega) hy
        case measure => simp [intOf]; omega
    · obtain rfl : k = n := by omega
      go_wp2
      go_ret
      exact ⟨_, rfl, IdxIs.none HLEN.out A.out, BW.out⟩

set_option maxHeartbeats 4000000 in
theorem zidxB {w : World} {s : ZSl} {X : List Pm} (h : ZSlot w s X) (hn : s.n ≤ 200000) (c : Pm) (p : Pm → Bool)
    (hp : ∀ (W : World) (x : Pm), Below w.heap.size w W → x ∈ X → Calls Try.prog 123 (#[.agg #[.int .i64 c.frm, .int .u64 (c.st : Int), .int .u32 (c.sn : Int)], .agg #[.int .i64 x.frm, .int .u64 (x.st : Int), .int .u32 (x.sn : Int)]]) W fun e w' => e = .returned (.bool (p x)) ∧ Below W.heap.size W w') :
    Calls Try.prog 142 #[s.v, .func (.func 123) #[.agg #[.int .i64 c.frm, .int .u64 (c.st : Int), .int .u32 (c.sn : Int)]] #[]] w fun e w' => ∃ z, e = .returned (.int .i64 z) ∧ IdxIs p X z ∧ Below w.heap.size w w' := by
  have hlen := h.len
  have HL := Lib.hid h.lst
  obtain ⟨ao, n, cap⟩ := s
  have HP := Lib.hid hp
  simp only at hlen hn
  have HLEN := Lib.hid hlen
  change Hid (Lst encP 3 w ao n X) at HL
  show Calls Try.prog 142 #[.slice ao n cap, .func (.func 123) #[.agg #[.int .i64 c.frm, .int .u64 (c.st : Int), .int .u32 (c.sn : Int)]] #[]] w _
  clear h hp hlen
  go_enter Try.func142, Try.ntmps142
  go_wp2
  go_loopw [8] (fun si wr => ∃ k : Nat, k ≤ n ∧ si = .int .i64 k ∧ Aside (Below w.heap.size w wr) ∧ Aside (∀ j y, j < k → X[j]? = some y → p y = false)) (fun si _ => n - (intOf si).toNat)
  case atStart => exact ⟨0, Nat.zero_le _, rfl, Below.refl _ w, fun j y hj => absurd hj (Nat.not_lt_zero _)⟩
  case round =>
    obtain ⟨k, hk, rfl, BW, A⟩ := hrel
    by_cases hlt : k < n
    · have hil : k < X.length := by rw [HLEN.out]; omega
      obtain ⟨b, o, rfl, R⟩ := (HL.out.below BW.out).src (by omega)
      have hx := List.getElem?_eq_getElem hil
      have hm := List.getElem_mem hil
      generalize X[k] = x at hx hm
      have HR := Lib.hid (ZSlot.rng (n := n) R k x hx)
      have C := HP.out wr x BW.out hm
      have HX := Lib.hid hx
      clear R hx hm hil
      cases hq : p x with
      | true =>
        rw [hq] at C
        have HQ := Lib.hid hq
        clear hq
        go_wp2_with (first | (with_reducible refine load_pm rfl (.tmp 14) rfl b (o + k * 3) x rfl HR.out ?_) | (go_at_call 123; refine C.mono ?_; rintro e w' ⟨rfl, hb'⟩))
        go_ret
        exact ⟨_, rfl, .inr ⟨k, x, rfl, HX.out, HQ.out, A.out⟩, BW.out.trans (hb'.mono BW.out.size)⟩
      | false =>
        rw [hq] at C
        have HQ := Lib.hid hq
        clear hq
        go_wp2_with (first | (with_reducible refine load_pm rfl (.tmp 14) rfl b (o + k * 3) x rfl HR.out ?_) | (go_at_call 123; refine C.mono ?_; rintro e w' ⟨rfl, hb'⟩))
        go_roundw
        case rel =>
          refine ⟨k + 1, by omega, by go_num, BW.out.trans (hb'.mono BW.out.size), (show Aside _ from fun j y hj hy => ?_)⟩
          by_cases e : j = k
          · subst e
            rw [HX.out] at hy
            cases hy
            exact HQ.out
          · exact A.out j y (by omega) hy
        case measure => simp [intOf]; omega
    · obtain rfl : k = n := by omega
      go_wp2
      go_ret
      exact ⟨_, rfl, IdxIs.none HLEN.out A.out, BW.out⟩

theorem any_idx {p : Pm → Bool} {X : List Pm} {z : Int} (h : IdxIs p X z) : decide (0 ≤ z) = X.any p := by
  rcases h with ⟨rfl, ha⟩ | ⟨k, x, rfl, hx, hp, _⟩
  · have : X.any p = false := by rw [List.any_eq_false]; intro x hx; rw [ha x hx]; simp
    rw [this]; rfl
  · have : X.any p = true := List.any_eq_true.2 ⟨x, List.mem_of_getElem? hx, hp⟩
    rw [this]; simp
set_option maxHeartbeats 4000000 in
theorem zcontains {w : World} {s : ZSl} {X : List Pm} (h : ZSlot w s X) (hn : s.n ≤ 200000) (fn : Nat) (lb : Array Value) (eg : ∀ args w, (callFunc fn args).run Try.prog w = .ok (.enter fn args) w) (p : Pm → Bool)
    (hp : ∀ (W : World) (x : Pm), Below w.heap.size w W → x ∈ X → Calls Try.prog fn (#[.agg #[.int .i64 x.frm, .int .u64 (x.st : Int), .int .u32 (x.sn : Int)]] ++ lb) W fun e w' => e = .returned (.bool (p x)) ∧ Below W.heap.size W w') :
    Calls Try.prog 121 #[s.v, .func (.func fn) #[] lb] w fun e w' => e = .returned (.bool (X.any p)) ∧ Below w.heap.size w w' := by
  have K := zidxA h hn fn lb eg p hp
  obtain ⟨ao, n, cap⟩ := s
  change Calls Try.prog 142 #[.slice ao n cap, .func (.func fn) #[] lb] w _ at K
  show Calls Try.prog 121 #[.slice ao n cap, .func (.func fn) #[] lb] w _
  clear h hp hn
  go_enter Try.func121, Try.ntmps121
  go_wp2_with fail
  refine K.mono ?_
  rintro e w' ⟨z, rfl, hz, hb⟩
  have HZ := Lib.hid (any_idx hz)
  clear hz K
  go_wp2
  go_ret
  exact ⟨by rw [← HZ.out]; rfl, hb⟩

set_option maxHeartbeats 8000000 in
theorem zdelA {w : World} {b n cap : Nat} {X : List Pm} (h : ZRow w b 0 n cap X) (hn : n ≤ 200000) (fn : Nat) (lb : Array Value) (eg : ∀ args w, (callFunc fn args).run Try.prog w = .ok (.enter fn args) w) (p : Pm → Bool)
    (hp : ∀ (W : World) (x : Pm), w.grownBy W (some b) → x ∈ X → Calls Try.prog fn (#[.agg #[.int .i64 x.frm, .int .u64 (x.st : Int), .int .u32 (x.sn : Int)]] ++ lb) W fun e w' => e = .returned (.bool (p x)) ∧ Below W.heap.size W w') :
    Calls Try.prog 124 #[.slice (some ⟨b, 0, none⟩) n cap, .func (.func fn) #[] lb] w fun e w' => ∃ m, m = (X.filter fun x => !p x).length ∧ e = .returned (.slice (some ⟨b, 0, none⟩) m cap) ∧ ZRow w' b 0 m cap (X.filter fun x => !p x) ∧ w.grownBy w' (some b) := by
  have K := zidxA (s := ⟨some ⟨b, 0, none⟩, n, cap⟩) (.inr ⟨b, rfl, h⟩) hn fn lb eg p fun W x hb hx => hp W x (grownBelow13 hb _) hx
  change Calls Try.prog 142 #[.slice (some ⟨b, 0, none⟩) n cap, .func (.func fn) #[] lb] w _ at K
  have HLEN := Lib.hid h.len
  have hle := h.le
  have hmx := h.max
  have HH := Lib.hid h
  have HP := Lib.hid hp
  unfold maxLen at hmx
  clear h hp
  go_enter Try.func124, Try.ntmps124
  go_wp2_with fail
  refine K.mono ?_
  rintro e w1 ⟨z, rfl, hz, hb⟩
  have H1 := Lib.hid (HH.out.below hb)
  have G1 := Lib.hid (grownBelow13 hb (some b))
  clear K HH hb
  rcases hz with ⟨rfl, ha⟩ | ⟨k, x, rfl, hx, hpx, hlo⟩
  · have e : X.filter (fun x => !p x) = X := List.filter_eq_self.2 fun y hy => by rw [ha y hy]; rfl
    have HE := Lib.hid e
    clear ha e
    go_wp2
    go_ret
    exact ⟨n, by rw [HE.out, HLEN.out], rfl, by rw [HE.out]; exact H1.out, G1.out⟩
  · have D0 := Del.start HLEN.out hx hpx hlo
    have hkn := D0.jn
    have hk1 : (((k : Nat) : Int) == -1) = false := beq_eq_false_iff_ne.2 (by omega)
    have D0 := Lib.hid D0
    clear hx hpx hlo
    go_wp2
    go_loopw [5, 6] (fun si sj wr => ∃ (i j : Nat) (M : List Pm), j ≤ n ∧ i ≤ n ∧ si = .int .i64 i ∧ sj = .int .i64 j ∧ Aside (Del p X M n i j) ∧ Aside (ZRow wr b 0 n cap M) ∧ Aside (w.grownBy wr (some b))) (fun _ sj _ => n - (intOf sj).toNat)
    case atStart => exact ⟨k, k + 1, X, by omega, by omega, rfl, by go_num, D0.out, H1.out, G1.out⟩
    case round =>
      obtain ⟨i, j, M, hj, hi, rfl, rfl, D, R, G⟩ := hrel
      clear H1 G1 D0 hk1
      have hij := D.out.ij
      by_cases hlt : j < n
      · have hil : j < X.length := by rw [HLEN.out]; omega
        have hx := List.getElem?_eq_getElem hil
        have hm := List.getElem_mem hil
        generalize X[j] = x at hx hm
        have HR := Lib.hid (R.out.rng0 j x (D.out.at_ hx))
        have HX := Lib.hid hx
        have hin : i < n := by omega
        have B4 := ((Grw.refl wr).alloc (.cells #[.int .i64 x.frm, .int .u64 (x.st : Int), .int .u32 (x.sn : Int)] 158)).below
        have C := HP.out _ x (grownTr13 G.out (grownBelow13 B4 _)) hm
        have R4 := Lib.hid (R.out.below B4)
        have G4 := Lib.hid (grownTr13 G.out (grownBelow13 B4 (some b)))
        have V4 := Lib.hid (Own.new wr 158 #[.int .i64 x.frm, .int .u64 (x.st : Int), .int .u32 (x.sn : Int)])
        clear B4 hm hx hil
        cases hq : p x with
        | true =>
          rw [hq] at C
          have HQ := Lib.hid hq
          clear hq
          go_wp2_with (first | (with_reducible refine load_pm rfl (.tmp 24) rfl b (j * 3) x rfl HR.out ?_) | fail)
          refine C.mono ?_
          rintro e w5 ⟨rfl, B5⟩
          have R5 := Lib.hid (R4.out.below B5)
          have G5 := Lib.hid (grownTr13 G4.out (grownBelow13 B5 (some b)))
          have D5 := Lib.hid (D.out.skip HX.out HQ.out hlt)
          clear C R4 G4 V4 B5 HR R G D
          go_wp2
          go_roundw
          case rel => exact ⟨i, j + 1, M, by omega, by omega, rfl, by go_num, D5.out, R5.out, G5.out⟩
          case measure => simp [intOf]; omega
        | false =>
          rw [hq] at C
          have HQ := Lib.hid hq
          clear hq
          go_wp2_with (first | (with_reducible refine load_pm rfl (.tmp 24) rfl b (j * 3) x rfl HR.out ?_) | fail)
          refine C.mono ?_
          rintro e w5 ⟨rfl, B5⟩
          have R5 := R4.out.below B5
          have G5 := Lib.hid (grownTr13 G4.out (grownBelow13 B5 (some b)))
          have V5 := V4.out.below B5 V4.out.lt
          have T5 := Lib.hid (show w5.there b (i * 3) 3 by have := R5.there3 i hin; rw [Nat.zero_add] at this; exact this)
          have hMi : i < M.length := by rw [D.out.len]; exact hin
          have R6 := Lib.hid (show ZRow (w5.setCells b (i * 3) (encP x)) b 0 n cap (M.set i x) by have := R5.put i M[i] x (List.getElem?_eq_getElem hMi); rw [Nat.zero_add] at this; exact this)
          have G6 := Lib.hid (grownTr13 G5.out (grownCells13 b (encP x) (i * 3) w5))
          have D6 := Lib.hid (D.out.keep HX.out HQ.out hlt)
          have L5 := Lib.hid (show w5.rangeAt wr.heap.size 0 (encP x) from fun q v hv => by rw [Nat.zero_add]; exact V5.at_ q v (by rw [List.getElem?_toArray]; exact hv))
          clear C R4 G4 V4 V5 B5 HR R G D R5 G5 hMi
          generalize wr.heap.size = vb at *
          go_wp2_with (first | (with_reducible refine load_pm rfl (.tmp 7) rfl vb 0 x rfl L5.out ?_) | (with_reducible refine store_pm rfl (.tmp 33) (.tmp 32) rfl b (i * 3) x rfl rfl T5.out ?_))
          go_roundw
          case rel => exact ⟨i + 1, j + 1, M.set i x, by omega, by omega, by go_num, by go_num, D6.out, R6.out, G6.out⟩
          case measure => simp [intOf]; omega
      · obtain rfl : j = n := by omega
        obtain ⟨e1, e2⟩ := D.out.end_ HLEN.out
        have R1 := R.out.take i (Nat.le_of_lt hij)
        rw [e1] at R1
        obtain ⟨vs, hv1, hv2⟩ := run_clear_z (R.out.drop i (Nat.le_of_lt hij)) (j - i) (cap - i) (Nat.le_refl _)
        have R2 := R1.cells (0 + i * 3) vs (by rw [hv1]; omega) (.inr (Nat.le_refl _))
        rw [Nat.zero_add] at R2 hv2
        have R2 := Lib.hid R2
        have G2 := Lib.hid (grownTr13 G.out (grownCells13 b vs (i * 3) wr))
        have HE := Lib.hid e2
        have hic : ¬ cap = i := by omega
        have hic2 : (i : Int) ≤ (cap : Int) := by omega
        clear e1 e2 R1 hv1 R G D
        go_wp2
        go_ret
        exact ⟨i, HE.out, rfl, R2.out, G2.out⟩

set_option maxHeartbeats 8000000 in
theorem zdelB {w : World} {b n cap : Nat} {X : List Pm} (h : ZRow w b 0 n cap X) (hn : n ≤ 200000) (c : Pm) (p : Pm → Bool)
    (hp : ∀ (W : World) (x : Pm), w.grownBy W (some b) → x ∈ X → Calls Try.prog 123 (#[.agg #[.int .i64 c.frm, .int .u64 (c.st : Int), .int .u32 (c.sn : Int)], .agg #[.int .i64 x.frm, .int .u64 (x.st : Int), .int .u32 (x.sn : Int)]]) W fun e w' => e = .returned (.bool (p x)) ∧ Below W.heap.size W w') :
    Calls Try.prog 124 #[.slice (some ⟨b, 0, none⟩) n cap, .func (.func 123) #[.agg #[.int .i64 c.frm, .int .u64 (c.st : Int), .int .u32 (c.sn : Int)]] #[]] w fun e w' => ∃ m, m = (X.filter fun x => !p x).length ∧ e = .returned (.slice (some ⟨b, 0, none⟩) m cap) ∧ ZRow w' b 0 m cap (X.filter fun x => !p x) ∧ w.grownBy w' (some b) := by
  have K := zidxB (s := ⟨some ⟨b, 0, none⟩, n, cap⟩) (.inr ⟨b, rfl, h⟩) hn c p fun W x hb hx => hp W x (grownBelow13 hb _) hx
  change Calls Try.prog 142 #[.slice (some ⟨b, 0, none⟩) n cap, .func (.func 123) #[.agg #[.int .i64 c.frm, .int .u64 (c.st : Int), .int .u32 (c.sn : Int)]] #[]] w _ at K
  have HLEN := Lib.hid h.len
  have hle := h.le
  have hmx := h.max
  have HH := Lib.hid h
  have HP := Lib.hid hp
  unfold maxLen at hmx
  clear h hp
  go_enter Try.func124, Try.ntmps124
  go_wp2_with fail
  refine K.mono ?_
  rintro e w1 ⟨z, rfl, hz, hb⟩
  have H1 := Lib.hid (HH.out.below hb)
  have G1 := Lib.hid (grownBelow13 hb (some b))
  clear K HH hb
  rcases hz with ⟨rfl, ha⟩ | ⟨k, x, rfl, hx, hpx, hlo⟩
  · have e : X.filter (fun x => !p x) = X := List.filter_eq_self.2 fun y hy => by rw [ha y hy]; rfl
    have HE := Lib.hid e
    clear ha e
    go_wp2
    go_ret
    exact ⟨n, by rw [HE.out, HLEN.out], rfl, by rw [HE.out]; exact H1.out, G1.out⟩
  · have D0 := Del.start HLEN.out hx hpx hlo
    have hkn := D0.jn
    have hk1 : (((k : Nat) : Int) == -1) = false := beq_eq_false_iff_ne.2 (by omega)
    have D0 := Lib.hid D0
    clear hx hpx hlo
    go_wp2
    go_loopw [5, 6] (fun si sj wr => ∃ (i j : Nat) (M : List Pm), j ≤ n ∧ i ≤ n ∧ si = .int .i64 i ∧ sj = .int .i64 j ∧ Aside (Del p X M n i j) ∧ Aside (ZRow wr b 0 n cap M) ∧ Aside (w.grownBy wr (some b))) (fun _ sj _ => n - (intOf sj).toNat)
    case atStart => exact ⟨k, k + 1, X, by omega, by omega, rfl, by go_num, D0.out, H1.out, G1.out⟩
    case round =>
      obtain ⟨i, j, M, hj, hi, rfl, rfl, D, R, G⟩ := hrel
      clear H1 G1 D0 hk1
      have hij := D.out.ij
      by_cases hlt : j < n
      · have hil : j < X.length := by rw [HLEN.out]; omega
        have hx := List.getElem?_eq_getElem hil
        have hm := List.getElem_mem hil
        generalize X[j] = x at hx hm
        have HR := Lib.hid (R.out.rng0 j x (D.out.at_ hx))
        have HX := Lib.hid hx
        have hin : i < n := by omega
        have B4 := ((Grw.refl wr).alloc (.cells #[.int .i64 x.frm, .int .u64 (x.st : Int), .int .u32 (x.sn : Int)] 158)).below
        have C := HP.out _ x (grownTr13 G.out (grownBelow13 B4 _)) hm
        have R4 := Lib.hid (R.out.below B4)
        have G4 := Lib.hid (grownTr13 G.out (grownBelow13 B4 (some b)))
        have V4 := Lib.hid (Own.new wr 158 #[.int .i64 x.frm, .int .u64 (x.st : Int), .int .u32 (x.sn : Int)])
        clear B4 hm hx hil
        cases hq : p x with
        | true =>
          rw [hq] at C
          have HQ := Lib.hid hq
          clear hq
          go_wp2_with (first | (with_reducible refine load_pm rfl (.tmp 24) rfl b (j * 3) x rfl HR.out ?_) | fail)
          refine C.mono ?_
          rintro e w5 ⟨rfl, B5⟩
          have R5 := Lib.hid (R4.out.below B5)
          have G5 := Lib.hid (grownTr13 G4.out (grownBelow13 B5 (some b)))
          have D5 := Lib.hid (D.out.skip HX.out HQ.out hlt)
          clear C R4 G4 V4 B5 HR R G D
          go_wp2
          go_roundw
          case rel => exact ⟨i, j + 1, M, by omega, by omega, rfl, by go_num, D5.out, R5.out, G5.out⟩
          case measure => simp [intOf]; omega
        | false =>
          rw [hq] at C
          have HQ := Lib.hid hq
          clear hq
          go_wp2_with (first | (with_reducible refine load_pm rfl (.tmp 24) rfl b (j * 3) x rfl HR.out ?_) | fail)
          refine C.mono ?_
          rintro e w5 ⟨rfl, B5⟩
          have R5 := R4.out.below B5
          have G5 := Lib.hid (grownTr13 G4.out (grownBelow13 B5 (some b)))
          have V5 := V4.out.below B5 V4.out.lt
          have T5 := Lib.hid (show w5.there b (i * 3) 3 by have := R5.there3 i hin; rw [Nat.zero_add] at this; exact this)
          have hMi : i < M.length := by rw [D.out.len]; exact hin
          have R6 := Lib.hid (show ZRow (w5.setCells b (i * 3) (encP x)) b 0 n cap (M.set i x) by have := R5.put i M[i] x (List.getElem?_eq_getElem hMi); rw [Nat.zero_add] at this; exact this)
          have G6 := Lib.hid (grownTr13 G5.out (grownCells13 b (encP x) (i * 3) w5))
          have D6 := Lib.hid (D.out.keep HX.out HQ.out hlt)
          have L5 := Lib.hid (show w5.rangeAt wr.heap.size 0 (encP x) from fun q v hv => by rw [Nat.zero_add]; exact V5.at_ q v (by rw [List.getElem?_toArray]; exact hv))
          clear C R4 G4 V4 V5 B5 HR R G D R5 G5 hMi
          generalize wr.heap.size = vb at *
          go_wp2_with (first | (with_reducible refine load_pm rfl (.tmp 7) rfl vb 0 x rfl L5.out ?_) | (with_reducible refine store_pm rfl (.tmp 33) (.tmp 32) rfl b (i * 3) x rfl rfl T5.out ?_))
          go_roundw
          case rel => exact ⟨i + 1, j + 1, M.set i x, by omega, by omega, by go_num, by go_num, D6.out, R6.out, G6.out⟩
          case measure => simp [intOf]; omega
      · obtain rfl : j = n := by omega
        obtain ⟨e1, e2⟩ := D.out.end_ HLEN.out
        have R1 := R.out.take i (Nat.le_of_lt hij)
        rw [e1] at R1
        obtain ⟨vs, hv1, hv2⟩ := run_clear_z (R.out.drop i (Nat.le_of_lt hij)) (j - i) (cap - i) (Nat.le_refl _)
        have R2 := R1.cells (0 + i * 3) vs (by rw [hv1]; omega) (.inr (Nat.le_refl _))
        rw [Nat.zero_add] at R2 hv2
        have R2 := Lib.hid R2
        have G2 := Lib.hid (grownTr13 G.out (grownCells13 b vs (i * 3) wr))
        have HE := Lib.hid e2
        have hic : ¬ cap = i := by omega
        have hic2 : (i : Int) ≤ (cap : Int) := by omega
        clear e1 e2 R1 hv1 R G D
        go_wp2
        go_ret
        exact ⟨i, HE.out, rfl, R2.out, G2.out⟩

theorem IdxIs.nil {p : Pm → Bool} {z : Int} (h : IdxIs p [] z) : z = -1 := by
  rcases h with ⟨rfl, _⟩ | ⟨k, x, _, hx, _⟩
  · rfl
  · simp at hx

set_option maxHeartbeats 2000000 in
/-- DeleteFunc at whatever slice of promises. -/
theorem zdelSA {w : World} {s : ZSl} {X : List Pm} (h : ZSlot w s X) (hn : s.n ≤ 200000) (fn : Nat) (lb : Array Value) (eg : ∀ args w, (callFunc fn args).run Try.prog w = .ok (.enter fn args) w) (p : Pm → Bool)
    (hp : ∀ (W : World) (x : Pm), w.grownBy W s.v.ownBlock → x ∈ X → Calls Try.prog fn (#[.agg #[.int .i64 x.frm, .int .u64 (x.st : Int), .int .u32 (x.sn : Int)]] ++ lb) W fun e w' => e = .returned (.bool (p x)) ∧ Below W.heap.size W w') :
    Calls Try.prog 124 #[s.v, .func (.func fn) #[] lb] w fun e w' => ∃ s1 : ZSl, e = .returned s1.v ∧ ZSlot w' s1 (X.filter fun x => !p x) ∧ s1.a = s.a ∧ s1.n ≤ s.n ∧ w.grownBy w' s.v.ownBlock := by
  rcases h with ⟨rfl, rfl⟩ | ⟨b, e, h⟩
  · have K := zidxA (s := zslNil) (X := []) (ZSlot.nil w) hn fn lb eg p fun W x hb hx => by cases hx
    change Calls Try.prog 142 #[.slice none 0 0, .func (.func fn) #[] lb] w _ at K
    show Calls Try.prog 124 #[.slice none 0 0, .func (.func fn) #[] lb] w _
    clear hp hn
    go_enter Try.func124, Try.ntmps124
    go_wp2_with fail
    refine K.mono ?_
    rintro e w1 ⟨z, rfl, hz, hb⟩
    have hz := hz.nil
    subst hz
    clear K
    go_wp2
    go_ret
    exact ⟨zslNil, rfl, ZSlot.nil _, rfl, Nat.le_refl _, grownBelow13 hb _⟩
  · obtain ⟨ao, n, cap⟩ := s
    simp only at e h hn
    subst e
    refine Calls.mono (zdelA h hn fn lb eg p fun W x hg hx => hp W x hg hx) ?_
    rintro e w' ⟨m, hm, rfl, hr, hg⟩
    exact ⟨⟨some ⟨b, 0, none⟩, m, cap⟩, rfl, .inr ⟨b, rfl, hr⟩, rfl, by show m ≤ n; rw [hm, ← h.len]; exact List.length_filter_le _ _, hg⟩

set_option maxHeartbeats 2000000 in
/-- DeleteFunc at whatever slice of promises. -/
theorem zdelSB {w : World} {s : ZSl} {X : List Pm} (h : ZSlot w s X) (hn : s.n ≤ 200000) (c : Pm) (p : Pm → Bool)
    (hp : ∀ (W : World) (x : Pm), w.grownBy W s.v.ownBlock → x ∈ X → Calls Try.prog 123 (#[.agg #[.int .i64 c.frm, .int .u64 (c.st : Int), .int .u32 (c.sn : Int)], .agg #[.int .i64 x.frm, .int .u64 (x.st : Int), .int .u32 (x.sn : Int)]]) W fun e w' => e = .returned (.bool (p x)) ∧ Below W.heap.size W w') :
    Calls Try.prog 124 #[s.v, .func (.func 123) #[.agg #[.int .i64 c.frm, .int .u64 (c.st : Int), .int .u32 (c.sn : Int)]] #[]] w fun e w' => ∃ s1 : ZSl, e = .returned s1.v ∧ ZSlot w' s1 (X.filter fun x => !p x) ∧ s1.a = s.a ∧ s1.n ≤ s.n ∧ w.grownBy w' s.v.ownBlock := by
  rcases h with ⟨rfl, rfl⟩ | ⟨b, e, h⟩
  · have K := zidxB (s := zslNil) (X := []) (ZSlot.nil w) hn c p fun W x hb hx => by cases hx
    change Calls Try.prog 142 #[.slice none 0 0, .func (.func 123) #[.agg #[.int .i64 c.frm, .int .u64 (c.st : Int), .int .u32 (c.sn : Int)]] #[]] w _ at K
    show Calls Try.prog 124 #[.slice none 0 0, .func (.func 123) #[.agg #[.int .i64 c.frm, .int .u64 (c.st : Int), .int .u32 (c.sn : Int)]] #[]] w _
    clear hp hn
    go_enter Try.func124, Try.ntmps124
    go_wp2_with fail
    refine K.mono ?_
    rintro e w1 ⟨z, rfl, hz, hb⟩
    have hz := hz.nil
    subst hz
    clear K
    go_wp2
    go_ret
    exact ⟨zslNil, rfl, ZSlot.nil _, rfl, Nat.le_refl _, grownBelow13 hb _⟩
  · obtain ⟨ao, n, cap⟩ := s
    simp only at e h hn
    subst e
    refine Calls.mono (zdelB h hn c p fun W x hg hx => hp W x hg hx) ?_
    rintro e w' ⟨m, hm, rfl, hr, hg⟩
    exact ⟨⟨some ⟨b, 0, none⟩, m, cap⟩, rfl, .inr ⟨b, rfl, hr⟩, rfl, by show m ≤ n; rw [hm, ← h.len]; exact List.length_filter_le _ _, hg⟩
end Go.Proofs.Ytfocjcdfpnbkjaa
