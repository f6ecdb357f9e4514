/- The walk of 'StreamWhole'. (Written by wip/gen_streamwhole.py.) -/
import Derived.Test.YtcnfkjjfegjecaaSSlice
set_option linter.unusedVariables false
set_option linter.unusedSimpArgs false
namespace Go.Proofs.Ytcnfkjjfegjecaa
open Go.RowKit Go.Sort Go.Maps

def encN (n : Nat) : List Value := [.int .u32 (n : Int)]
theorem encN_length (n : Nat) : (encN n).length = 1 := rfl
theorem flatN_one {l : List Nat} : ∀ u ∈ flat encN l, u.oneCell' = true := by
  intro u hu
  unfold flat at hu
  obtain ⟨c, hc, huc⟩ := List.mem_flatten.1 hu
  obtain ⟨m, _, rfl⟩ := List.mem_map.1 hc
  simp only [encN, List.mem_singleton] at huc
  subst huc
  rfl
/-- 'append' onto a row of numbers of the call's own. -/
theorem wp_append_n (w : World) {o : Oper} {a : Act} {K : Act → World → Prop} {Q : Exit → Act → World → Prop} (s x : Operand)
    (ho : o.op = .call { callee := .builtin .append, args := #[s, x], argTypes := #[35, 35] })
    (base : Nat) (v : Value) (n : Nat) (xs : List Value) (hs : a.eval s = v) (hown : w.ownsRow base 23 1 v n xs)
    (ao : Option Addr) (m c : Nat) (l : List Nat) (hx : a.eval x = .slice ao m c) (hnil : ao = none → c = 0) (hl : Lst encN 1 w ao m l) (hn : n + m ≤ 200000) (hbase : base ≤ w.heap.size)
    (h : ∀ v' w', w'.ownsRow base 23 1 v' (n + m) (xs ++ flat encN l) → w.grownBy w' v.ownBlock → K (a.put o.dst v') w') : o.wp Try.prog a w K Q := by
  obtain ⟨i0, hi, hz0, hz1, hz2⟩ := info_parts info32s
  have ht := Try.underlying35
  cases ao with
  | none =>
    have hm : m = 0 := by
      rcases Nat.eq_zero_or_pos m with e | e
      · exact e
      · obtain ⟨b, o', e', _⟩ := hl.src e; cases e'
    subst hm
    have hc := hnil rfl
    subst hc
    have hl0 : l = [] := List.eq_nil_of_length_eq_zero hl.size
    subst hl0
    have hrun := run_append_owned_none (P := Try.prog) (w := w) base 35 o.type 23 i0 1 ht hi v n xs hown
    unfold Oper.wp
    simp [execOp, ho, resolve, invoke, builtin, hs, hx, hrun, Result.andThen]
    exact h v w (by simpa [flat_nil] using hown) (World.grownBy.refl w _)
  | some ad =>
    refine wp_append_own w s x 35 ho base 23 i0 (.int .u32 0) 1 4 ht hi hz0 hz1 hz2 rfl (by decide) v n xs hs hown ad m c (flat encN l) hx (by rw [flat_length encN 1 encN_length, hl.size]) (fun j u hu => ?_) flatN_one (by unfold maxLen; omega) (by omega) hbase (fun v' w' h1 h2 _ => h v' w' h1 h2)
    have hj : j < m * 1 := by have := (List.getElem?_eq_some_iff.1 hu).1; rw [flat_length encN 1 encN_length, hl.size] at this; exact this
    obtain ⟨b, o', e', R⟩ := hl.src (by omega)
    cases e'
    rw [add_lit10]
    exact R.flat encN_length j u hu
theorem append_n (w : World) {ops : Array Oper} {rest : List Oper} {o : Oper} {a : Act} {Q : Exit → Act → World → Prop} (hgd : o.guard = none) (s x : Operand)
    (ho : o.op = .call { callee := .builtin .append, args := #[s, x], argTypes := #[35, 35] })
    (base : Nat) (v : Value) (n : Nat) (xs : List Value) (hs : a.eval s = v) (hown : w.ownsRow base 23 1 v n xs)
    (ao : Option Addr) (m c : Nat) (l : List Nat) (hx : a.eval x = .slice ao m c) (hnil : ao = none → c = 0) (hl : Lst encN 1 w ao m l) (hn : n + m ≤ 200000) (hbase : base ≤ w.heap.size)
    (h : ∀ v' w', w'.ownsRow base 23 1 v' (n + m) (xs ++ flat encN l) → w.grownBy w' v.ownBlock → wpList Try.prog ops Q rest (a.put o.dst v') w') : wpList Try.prog ops Q (o :: rest) a w :=
  wpList_plain hgd fun K' hK' => wp_append_n w s x ho base v n xs hs hown ao m c l hx hnil hl hn hbase fun v' w' h1 h2 => hK' _ _ (h v' w' h1 h2)
theorem lst_n (w : World) (d : Nat) : Lst encN 1 (w.alloc (.cells #[.int .u32 (d : Int)] 23)) (some ⟨w.heap.size, 0, none⟩) 1 [d] := by
  refine ⟨rfl, fun _ => ⟨w.heap.size, 0, rfl, fun i x hx c v hv => ?_⟩⟩
  have hi : i < 1 := (List.getElem?_eq_some_iff.1 hx).1
  obtain rfl : i = 0 := by omega
  cases hx
  have hc : c < 1 := (List.getElem?_eq_some_iff.1 hv).1
  obtain rfl : c = 0 := by omega
  simp [encN] at hv
  subst hv
  simp
/-- A row of numbers isn't a stream's block, nor its map, nor a row of messages. -/
theorem row_off {w : World} {base n : Nat} {v : Value} {xs : List Value} (h : w.ownsRow base 23 1 v n xs) (k : Nat) (hk : ∀ cur, w.heap[k]? ≠ some (.cells cur 23 (0, 0))) : v.ownBlock ≠ some k := by
  intro e
  rcases h.2 with ⟨rfl, _⟩ | ⟨g, c, cur, rfl, _, hg, _⟩
  · simp [Value.ownBlock] at e
  · simp [Value.ownBlock] at e
    subst e
    exact hk cur hg
theorem row_mv {w w' : World} {base n : Nat} {v : Value} {xs : List Value} {F : Nat → Prop} {g b : Nat} {S : Sm Mg} (h : w.ownsRow base 23 1 v n xs) (hS : SmRep w F g b S) (m : Mv g b w w') : w'.ownsRow base 23 1 v n xs := by
  obtain ⟨H, hB, _⟩ := hS.ex
  have h1 := row_off h g (fun cur e => by
    rw [hB.own.is] at e
    injection e with e
    injection e with e1 e2 e3
    cases e2)
  have h2 := row_off h b (fun cur e => by
    obtain ⟨D, ⟨es, clock, hb, _⟩, _⟩ := hB.map
    rw [hb] at e
    cases e)
  exact own_stays h fun j hj hl => m.block j hl (fun e => h1 (e ▸ hj)) (fun e => h2 (e ▸ hj))
theorem row_grown {w w' : World} {base n base2 n2 k2 : Nat} {v v2 : Value} {xs xs2 : List Value} (h : w.ownsRow base 23 1 v n xs) (h2 : w.ownsRow base2 37 k2 v2 n2 xs2) (hg : w.grownBy w' v2.ownBlock) : w'.ownsRow base 23 1 v n xs := by
  refine own_stays h fun j hj hl => hg.block j hl (fun e => ?_)
  rcases h2.2 with ⟨rfl, _⟩ | ⟨g, c, cur, rfl, _, hg2, _⟩
  · simp [Value.ownBlock] at e
  · simp [Value.ownBlock] at e
    subst e
    exact row_off h j (fun cur' e' => by
      rw [hg2] at e'
      injection e' with e1
      injection e1 with e1 e2 e3
      cases e2) hj
/-- Of a list of unlike numbers one is taken out. -/
theorem out_mem {L : List Nat} (hn : L.Nodup) {p q : Nat} (h : L[p]? = some q) : (L.take p ++ L.drop (p + 1)).Nodup ∧ ∀ k, k ∈ L.take p ++ L.drop (p + 1) ↔ k ∈ L ∧ k ≠ q := by
  obtain ⟨hp, rfl⟩ := List.getElem?_eq_some_iff.1 h
  have e : L = L.take p ++ L[p] :: L.drop (p + 1) := by
    conv => lhs; rw [← List.take_append_drop p L, List.drop_eq_getElem_cons hp]
  generalize L[p] = q at e
  generalize L.take p = A at *
  generalize L.drop (p + 1) = B at *
  subst e
  rw [List.nodup_append, List.nodup_cons] at hn
  obtain ⟨h1, ⟨h2, h3⟩, h4⟩ := hn
  refine ⟨List.nodup_append.2 ⟨h1, h3, fun a ha b hb => h4 a ha b (List.mem_cons_of_mem _ hb)⟩, fun k => ?_⟩
  simp only [List.mem_append, List.mem_cons]
  constructor
  · rintro (h | h)
    · exact ⟨.inl h, fun e => h4 k h q (List.mem_cons_self ..) e⟩
    · exact ⟨.inr (.inr h), fun e => h2 (e ▸ h)⟩
  · rintro ⟨h | h | h, hk⟩
    · exact .inl h
    · exact absurd h hk
    · exact .inr h
/-- A stream, and what was answered. -/
structure WhSt (wr : World) (B g b : Nat) (S : Sm Mg) (A : List Mg) (oa : Option Addr) (oc : Nat) : Prop where
  ord : ∃ F1, Ord sqG S F1 A
  few : A.length ≤ 64
  rep : SmRep wr (FF g b none oa) g b S
  all : OutAt wr (FF g b none oa) B oa oc A
  base : B ≤ wr.heap.size
theorem WhSt.below {wr w' : World} {B g b : Nat} {S : Sm Mg} {A : List Mg} {oa : Option Addr} {oc : Nat} (h : WhSt wr B g b S A oa oc) (hb : Below wr.heap.size wr w') : WhSt w' B g b S A oa oc :=
  ⟨h.ord, h.few, h.rep.below hb, h.all.below hb, Nat.le_trans h.base hb.size⟩
/-- Behind Take. -/
structure WhMid (wr : World) (B g b : Nat) (S : Sm Mg) (A : List Mg) (oa : Option Addr) (oc : Nat) (oo : Option Addr) (o2 : Nat) (out : List Mg) (b0 : Nat) : Prop where
  rep : SmRep wr (FF g b none oa) g b S
  all : OutAt wr (FF g b none oa) B oa oc A
  out : OutAt wr (FF g b none oa) b0 oo o2 out
  base : B ≤ wr.heap.size
theorem WhSt.took {wr w' : World} {B g b : Nat} {S S' : Sm Mg} {A out : List Mg} {oa : Option Addr} {oc : Nat} (h : WhSt wr B g b S A oa oc) (hg : g < B) (hb : b < B) {oo : Option Addr} {o2 : Nat}
    (hR : SmRep w' (FF g b none oa) g b S') (hO : OutAt w' (FF g b none oa) wr.heap.size oo o2 out) (hM : Mv g b wr w') : WhMid w' B g b S' A oa oc oo o2 out wr.heap.size where
  rep := hR
  all := h.all.kept (fun k hk hn => hM.block k hk (fun e => hn (e ▸ ff_g g b none oa)) (fun e => hn (e ▸ ff_b g b none oa))) (fun x e hk => by have := h.all.place x e; exact hM.block _ hk (by omega) (by omega))
  out := hO
  base := Nat.le_trans h.base hM.size
theorem WhMid.done {wr w' : World} {B g b : Nat} {S : Sm Mg} {A out : List Mg} {oa : Option Addr} {oc : Nat} {oo : Option Addr} {o2 b0 : Nat} (h : WhMid wr B g b S A oa oc oo o2 out b0) (hg : g < B) (hb : b < B) (ho : ∃ F1, Ord sqG S F1 (A ++ out)) (hf : (A ++ out).length ≤ 64) {ao' : Option Addr} {ac' : Nat}
    (h1 : OutAt w' (addB (FF g b none oa) ao') B ao' ac' (A ++ out)) (h2 : wr.grownBy w' (Value.slice oa A.length oc).ownBlock) (h3 : ∀ x, ao' = some x → oa = some x ∨ x.block = wr.heap.size) : WhSt w' B g b S (A ++ out) ao' ac' := by
  have hF : ∀ x, oa = some x → FF g b none oa x.block := ff_a
  have hn := addB_new (w := wr) hF h3
  have hsub : ∀ k, FF g b none oa k → addB (FF g b none oa) ao' k := fun k hk => .inl hk
  have hl : ∀ k, addB (FF g b none oa) ao' k → k < w'.heap.size := fun k hk => by
    rcases hk with hk | ⟨x, e, rfl⟩
    · exact Nat.lt_of_lt_of_le (h.rep.lim k hk) h2.size
    · exact (h1.place x e).2
  refine ⟨ho, hf, ?_, h1.less ff_sub_a, Nat.le_trans h.base h2.size⟩
  exact (h.rep.grow h2 (fun j hj => by
      obtain ⟨x, e, rfl⟩ := own_of_slice hj
      have := h.all.place x e
      exact ⟨ff_a x e, by omega, by omega⟩) hsub hn hl).less ff_sub_a (ff_g _ _ _ _) (ff_b _ _ _ _)
theorem WhSt.start {wr : World} {B g b : Nat} {n : Int} (h : SmRep wr (Two10 g b) g b (newS n)) (hB : B ≤ wr.heap.size) : WhSt wr B g b (newS n) [] none 0 where
  ord := ⟨[], newS_inv n, rfl, fun i x h => by simp at h, (fun x h => by rcases h with h | h <;> cases h), rfl⟩
  few := Nat.zero_le _
  rep := by
    obtain ⟨H, hS, hR⟩ := h.ex
    have hs : ∀ k, FF g b none none k → Two10 g b k := by
      rintro k ((hk | ⟨x, e, _⟩) | ⟨x, e, _⟩)
      · exact hk
      · cases e
      · cases e
    exact ⟨ff_g _ _ _ _, ff_b _ _ _ _, fun k hk => h.lim k (hs k hk), H, hS, hR.more fun k hk => .inl (hs k hk)⟩
  all := OutAt.nil _ _ _
  base := hB
/-- A number of a row. -/
theorem row_at {w : World} {base n lc : Nat} {lo : Option Addr} {L : List Nat} (h : w.ownsRow base 23 1 (.slice lo n lc) n (flat encN L)) (hl : L.length = n) {j q : Nat} (hq : L[j]? = some q) :
    ∃ lk, lo = some ⟨lk, 0, none⟩ ∧ lk < w.heap.size ∧ n ≤ lc ∧ lc ≤ maxLen ∧ w.cell? ⟨lk, j, none⟩ = some (.int .u32 (q : Int)) := by
  have hj := (List.getElem?_eq_some_iff.1 hq).1
  have HL := own_lst' (enc := encN) encN_length hl h
  obtain ⟨b, o, e, R⟩ := HL.src (by omega)
  subst e
  rcases own_cases h with ⟨e1, _⟩ | ⟨g1, c1, e1, e2, e3⟩
  · cases e1
  · injection e1 with e1 _ e4
    injection e1 with e1
    injection e1 with e1 e5
    subst e1 e4 e5
    refine ⟨b, rfl, own_lt h, e2, e3, ?_⟩
    have := R j q hq 0 _ rfl
    simpa using this
theorem row_out {w w' : World} {base n B : Nat} {v : Value} {xs : List Value} {F : Nat → Prop} {oa : Option Addr} {oc : Nat} {A : List Mg} (h : w.ownsRow base 23 1 v n xs) (hA : OutAt w F B oa oc A) (hg : w.grownBy w' (Value.slice oa A.length oc).ownBlock) : w'.ownsRow base 23 1 v n xs := by
  obtain ⟨L, hO, _⟩ := hA
  exact row_grown h hO hg
/-- The row's slices. -/
theorem src_take {w : World} {base n lc lk : Nat} {L : List Nat} (h : w.ownsRow base 23 1 (.slice (some ⟨lk, 0, none⟩) n lc) n (flat encN L)) (hl : L.length = n) {j : Nat} (hj : j ≤ n) : Lst encN 1 w (some ⟨lk, 0, none⟩) j (L.take j) := by
  have HL := own_lst' (enc := encN) encN_length hl h
  refine ⟨by rw [List.length_take]; omega, fun h0 => ?_⟩
  obtain ⟨b, o, e, R⟩ := HL.src (by omega)
  exact ⟨b, o, e, fun i x hx c v hv => R i x (by rw [List.getElem?_take] at hx; split at hx; exact hx; cases hx) c v hv⟩
theorem src_drop {w : World} {base n lc lk : Nat} {L : List Nat} (h : w.ownsRow base 23 1 (.slice (some ⟨lk, 0, none⟩) n lc) n (flat encN L)) (hl : L.length = n) (hlc : n ≤ lc) {d : Nat} (hd : d ≤ n) : Lst encN 1 w (some (if lc = d then ⟨lk, 0, none⟩ else (⟨lk, 0, none⟩ : Addr).add d)) (n - d) (L.drop d) := by
  have HL := own_lst' (enc := encN) encN_length hl h
  refine ⟨by rw [List.length_drop]; omega, fun h0 => ?_⟩
  obtain ⟨b, o, e, R⟩ := HL.src (by omega)
  injection e with e
  injection e with e1 e2
  subst e1 e2
  rw [if_neg (by omega), add_lit10]
  refine ⟨lk, 0 + d, rfl, fun i x hx c v hv => ?_⟩
  have := R (d + i) x (by rw [List.getElem?_drop] at hx; exact hx) c v hv
  rw [show 0 + d + i * 1 + c = 0 + (d + i) * 1 + c by omega]
  exact this
theorem whl_new (n : Nat) (hn : n ≤ 64) : Whl sqG (newS 64) n (List.range' 1 n) where
  inv := newS_inv 64
  big := rfl
  n64 := hn
  left := fun k hk => by
    rw [List.mem_range'_1] at hk
    exact ⟨hk.1, by omega, by show 0 < k; omega, rfl⟩
  rest := fun k h1 h2 h3 => absurd (List.mem_range'_1.2 ⟨h1, by omega⟩) h3
  held := fun m hm => by cases hm
  cnt := Nat.zero_le _
set_option maxHeartbeats 8000000 in
set_option maxRecDepth 100000 in
theorem whole_core (n : Int) (n0 : -9223372036854775808 ≤ n) (n1 : n ≤ 9223372036854775807) (ao : Option Addr) (len cap : Nat) (l : List Int) (w : World) (hl : Lst (fun n : Int => [.int .u16 n]) 1 w ao len l) (hb16 : ∀ n ∈ l, 0 ≤ n ∧ n ≤ 65535) :
    Calls Try.prog 6 #[.int .i64 n, .slice ao len cap] w fun e w' => e = .returned (.bool true) ∧ Below w.heap.size w w' := by
  have HL := Lib.hid hl
  have HBD := Lib.hid hb16
  have HAW := Lib.hid (sawake w)
  have mixed : Try.prog.follows .mixedOrders = true := by kernel_rfl
  clear hl hb16
  go_enter Try.func6, Try.ntmps6
  by_cases g1 : n < 0
  · go_wp2_with (go_at_call 7; refine HAW.out.mono ?_; rintro e w1 ⟨rfl, L1⟩; have HL1 := Lib.hid L1; clear L1)
    go_ret
    exact ⟨rfl, HL1.out⟩
  by_cases g2 : 64 < n
  · go_wp2_with (go_at_call 7; refine HAW.out.mono ?_; rintro e w1 ⟨rfl, L1⟩; have HL1 := Lib.hid L1; clear L1)
    go_ret
    exact ⟨rfl, HL1.out⟩
  by_cases g3 : (200 : Int) < (len : Int)
  · go_wp2_with (go_at_call 7; refine HAW.out.mono ?_; rintro e w1 ⟨rfl, L1⟩; have HL1 := Lib.hid L1; clear L1)
    go_ret
    exact ⟨rfl, HL1.out⟩
  obtain ⟨p, rfl⟩ : ∃ p : Nat, n = (p : Int) := ⟨n.toNat, by omega⟩
  have hp : p ≤ 64 := by omega
  have hlen : len ≤ 200 := by omega
  clear n0 n1
  go_wp2_with (go_at_call 7; refine HAW.out.mono ?_; rintro e w1 ⟨rfl, L1⟩; have HL1 := Lib.hid L1; clear L1)
  have HL1W : Hid (Below w.heap.size w w1) := HL1
  clear HAW HL1
  go_loopw [5, 6] (fun sl si wr => ∃ (k : Nat) (lo : Option Addr) (lc : Nat), k ≤ p ∧ si = .int .i64 k ∧ sl = .slice lo k lc ∧ wr.ownsRow w.heap.size 23 1 (.slice lo k lc) k (flat encN (List.range' 1 k)) ∧ Below w.heap.size w wr) (fun _ si _ => p - (intOf si).toNat)
  case atStart => exact ⟨0, none, 0, Nat.zero_le _, rfl, rfl, World.ownsRow_nil _ _ _ _, HL1W.out⟩
  case round =>
    obtain ⟨k, lo, lc, hk, rfl, rfl, hO, hB⟩ := hrel
    have HO := Lib.hid hO
    have HBB := Lib.hid hB
    clear hO hB
    by_cases hkp : k < p
    · obtain ⟨d, hd⟩ : ∃ d : Nat, d = k + 1 := ⟨_, rfl⟩
      have hde : (k : Int) + 1 = (d : Int) := by omega
      have hdl : d ≤ 64 := by omega
      have HD := Lib.hid hd
      have HN : Hid (List.range' 1 k ++ [d] = List.range' 1 (k + 1)) := Lib.hid (by rw [hd, List.range'_concat]; simp; omega)
      clear hd
      go_wp2_with (at_builtin; refine append_n _ rfl (.tmp 32) (.tmp 36) rfl w.heap.size (.slice lo k lc) k _ rfl (HO.out.alloc _) _ 1 _ [d] rfl (fun e => by cases e) (lst_n _ d) (by omega) (by simp; have := HBB.out.size; omega) ?_; intro v5 w5 O5 G5; have HB5 := Lib.hid ((HBB.out.alloc HBB.out.size (.cells #[.int .u32 (d : Int)] 23)).grown G5 (by simp; have := HBB.out.size; omega) (fun j hj => own_behind HO.out j hj)); have HO5 := Lib.hid (show w5.ownsRow w.heap.size 23 1 v5 (k + 1) (flat encN (List.range' 1 (k + 1))) by rw [← HN.out, flat_append]; exact O5); clear O5 G5)
      have hf := own_form' HO5.out
      obtain ⟨lo5, lc5, rfl⟩ := hf
      go_roundw
      case rel => exact ⟨k + 1, lo5, lc5, by omega, by have := HD.out; subst this; go_num, rfl, HO5.out, HB5.out⟩
      case measure => have := HD.out; simp [intOf]; omega
    · have hkp2 : k = p := by omega
      subst hkp2
      obtain ⟨w2, hw2⟩ : ∃ w2, w2 = wr := ⟨_, rfl⟩
      subst hw2
      have HNW := Lib.hid (snew_any 64 w2 (by decide) (by decide))
      clear hkp hk
      go_wp2_with (go_at_call 9; refine HNW.out.mono ?_; rintro e w3 ⟨rfl, R3, L3⟩; have HL3 := Lib.hid L3; have HR3 := Lib.hid R3; clear R3 L3)
      have h23 := HL3.out.size
      have hwr := HBB.out.size
      obtain ⟨g, hge⟩ : ∃ g, g = w2.heap.size + 1 := ⟨_, rfl⟩
      obtain ⟨b, hbe⟩ : ∃ b, b = w2.heap.size := ⟨_, rfl⟩
      have HR : Hid (SmRep w3 (Two10 g b) g b (newS 64)) := Lib.hid (by rw [hge, hbe]; exact HR3.out)
      have hg3 := HR.out.lt
      rw [← hge]
      have hgw : w.heap.size ≤ g := by omega
      have hbw : w.heap.size ≤ b := by omega
      have HB3 := Lib.hid (HBB.out.trans (HL3.out.mono HBB.out.size))
      have HST := Lib.hid (WhSt.start (B := w3.heap.size) HR.out (Nat.le_refl _))
      have HRW := Lib.hid (own_below HO.out HL3.out)
      have HWL := Lib.hid (whl_new k hp)
      have HND : Hid (List.range' 1 k).Nodup := Lib.hid List.nodup_range'
      have HLL : Hid ((List.range' 1 k).length = k) := Lib.hid (by simp)
      have hgB : g < w3.heap.size := hg3.1
      have hbB : b < w3.heap.size := hg3.2
      have hwB : w.heap.size ≤ w3.heap.size := by omega
      clear HNW HR3 HR HO HBB HL3 HL1W hge hbe h23 hwr hg3
      generalize w3.heap.size = B at *
      go_loopw [5, 8, 9] (fun sl sa si wr => ∃ (i : Nat) (L : List Nat) (S : Sm Mg) (A : List Mg) (n : Nat) (lo : Option Addr) (lc : Nat) (oa : Option Addr) (oc : Nat), si = .int .i64 i ∧ i + n = k ∧ sl = .slice lo n lc ∧ sa = .slice oa A.length oc ∧ Hid (L.length = n) ∧
          wr.ownsRow w.heap.size 23 1 (.slice lo n lc) n (flat encN L) ∧ Hid L.Nodup ∧ Whl sqG S k L ∧ WhSt wr B g b S A oa oc ∧ Below w.heap.size w wr) (fun sl _ _ _ => lenOf sl)
      case atStart => exact ⟨0, List.range' 1 k, newS 64, [], k, lo, lc, none, 0, rfl, by omega, rfl, rfl, HLL.out |> Lib.hid, HRW.out, HND, HWL.out, HST.out, HB3.out⟩
      case round =>
        clear HRW HWL HND HLL HST HB3
        obtain ⟨i, L, S, A, n, lo, lc, oa, oc, rfl, hin, rfl, rfl, HLL, hO, HND, hW, hSt, hB⟩ := hrel
        have HO := Lib.hid hO
        have HW := Lib.hid hW
        have HST := Lib.hid hSt
        have HBB := Lib.hid hB
        clear hO hW hSt hB
        by_cases hn0 : 0 < n
        · by_cases hil : i < len
          · obtain ⟨b1, o1, rfl, hr1⟩ := HL.out.src (by omega)
            obtain ⟨x, hx⟩ : ∃ x, l[i]? = some x := ⟨_, List.getElem?_eq_getElem (by rw [HL.out.size]; exact hil)⟩
            have hxb := HBD.out x (List.mem_of_getElem? hx)
            obtain ⟨t, rfl⟩ : ∃ t : Nat, x = (t : Int) := ⟨x.toNat, by omega⟩
            have ht : t ≤ 65535 := by omega
            have ct := cell_later HBB.out (hr1 i _ hx 0 _ rfl)
            simp only [Nat.mul_one, Nat.add_zero] at ct
            obtain ⟨j, hjt⟩ : ∃ j, j = t % n := ⟨_, rfl⟩
            have hjn : j < n := by rw [hjt]; exact Nat.mod_lt _ hn0
            have hm2 : (t : Int) % (n : Int) = (j : Int) := by rw [hjt]; rfl
            have hm1 : (t : Int).tmod (n : Int) = (j : Int) := by rw [Int.tmod_eq_emod_of_nonneg (by omega)]; exact hm2
            obtain ⟨d, hd⟩ : ∃ d : Nat, d = j + 1 := ⟨_, rfl⟩
            have hde : (j : Int) + 1 = (d : Int) := by omega
            have HDD := Lib.hid hd
            have hdn : d ≤ n := by omega
            have HWD : Hid (IntKind.i64.wrap (d : Int) = d) := Lib.hid (by rw [IntKind.wrap_i64]; omega)
            obtain ⟨q, hjq⟩ : ∃ q, L[j]? = some q := ⟨_, List.getElem?_eq_getElem (by rw [HLL.out]; exact hjn)⟩
            clear hd hjt hx hxb hr1
            obtain ⟨lk, rfl, hlk, hnlc, hlc, hcell⟩ := row_at HO.out HLL.out hjq
            have hqL : q ∈ L := List.mem_of_getElem? hjq
            have hqb := HW.out.left q hqL
            have hsq : sqG (mq (q : Int)) = q := by simp [sqG, mq, zeroG]
            have hc0 : codeS sqG S (mq (q : Int)) = 0 := HW.out.code sqG (mq (q : Int)) (by rw [hsq]; exact hqL)
            have hou := out_mem HND.out hjq
            have HW2 := Lib.hid (HW.out.step sqG (mq (q : Int)) (by rw [hsq]; exact hqL) (L' := L.take j ++ L.drop (j + 1)) (by rw [hsq]; exact hou.2))
            have HND2 : Hid (L.take j ++ L.drop (j + 1)).Nodup := Lib.hid hou.1
            have hcnt : S.count ≤ 64 := by have := HW.out.cnt; omega
            have HORD : Hid (∃ F1, Ord sqG (takeS sqG S (mq (q : Int))) F1 (A ++ outS sqG S (mq (q : Int)))) := Lib.hid (by
              obtain ⟨F1, ho⟩ := HST.out.ord
              have := ho.step sqG (mq (q : Int))
              rw [if_pos hc0] at this
              exact ⟨_, this⟩)
            have HFEW : Hid ((A ++ outS sqG S (mq (q : Int))).length ≤ 64) := Lib.hid (by
              obtain ⟨F1, ho⟩ := HORD.out
              have h1 := ho.count
              have h2 := HW2.out.cnt
              omega)
            have HT : Hid (Calls Try.prog 11 #[.pointer (some ⟨g, 0, none⟩), .agg #[.int .i64 0, .int .u32 (q : Int), .int .u64 0, .int .i64 0, .slice none 0 0, .string { data := #[] }]] wr fun e w' => ∃ oo o2, e = .returned (.tuple #[.slice oo (outS sqG S (mq (q : Int))).length o2, .int .i64 0]) ∧
                WhMid w' B g b (takeS sqG S (mq (q : Int))) A oa oc oo o2 (outS sqG S (mq (q : Int))) wr.heap.size ∧ Mv g b wr w') := Lib.hid (by
              have := stake_any HST.out.rep HW.out.inv (mq (q : Int)) (mq_deps _ _) (by show (0 : Int) ≤ (q : Int); omega) (by show (q : Int) < 4294967296; omega) (Nat.zero_le _) (by omega)
              refine this.mono fun e w' ⟨oo, o2, he, R4, O4, M4⟩ => ?_
              rw [hc0] at he
              exact ⟨oo, o2, he, HST.out.took hgB hbB R4 O4 M4, M4⟩)
            have HREP := Lib.hid HST.out.rep
            have HJQ := Lib.hid hjq
            clear hc0 hou hsq hcnt hqL HST HND HW hjq
            generalize outS sqG S (mq (q : Int)) = out at *
            generalize takeS sqG S (mq (q : Int)) = S' at *
            have hbs := HBB.out.size
            go_upto_region 22 with (first
              | (go_at_call 11; refine HT.out.mono ?_; rintro e w4 ⟨oo, o2, rfl, MID, M4⟩; have HMID := Lib.hid MID; have HB4 := Lib.hid (HBB.out.trans (M4.below hbs hgw hbw)); have HO4 := Lib.hid (row_mv HO.out HREP.out M4); clear MID M4)
              | (at_builtin; refine append_out _ rfl (.tmp 68) (.tmp 69) rfl (FF g b none oa) B oa oc A rfl HMID.out.all wr.heap.size oo o2 out rfl HMID.out.out ff_a (by have := HFEW.out; simp at this; omega) HMID.out.base ?_; intro ao5 ac5 w5 O5 G5 LC5; have HDONE := Lib.hid (HMID.out.done hgB hbB HORD.out HFEW.out O5 G5 LC5); have HB5 := Lib.hid (HB4.out.grown G5 HB4.out.size (fun j hj => by obtain ⟨x, e, rfl⟩ := own_of_slice hj; have := HMID.out.all.place x e; omega)); have HO5 := Lib.hid (row_out HO4.out HMID.out.all G5); clear O5 G5 LC5 HMID))
            have HLEN := Lib.hid hlc
            have HST5 := HDONE
            refine wp_region_held_drew (S := fun _ => True) (by kernel_rfl) trivial (fun hHeld => ?_)
            have HB6 := Lib.hid (show Below w5.heap.size w5 w5.drew from (Grw.refl w5).drew.below)
            have HO6 := Lib.hid (own_grw HO5.out (Grw.refl w5).drew)
            generalize w5.drew = w6 at *
            refine stake (i := 1) (v := (.slice (some ⟨lk, 0, none⟩) n lc)) 72 rfl (by kernel_rfl) (by kernel_rfl) (by kernel_rfl) (by kernel_rfl) (fun _ _ _ h => h) (.inl ⟨by kernel_rfl, fun w' hS => by (go_simp)⟩) hHeld ?_
            (try simp only [Act.put, List.setIfInBounds_toArray, List.set_cons_zero, List.set_cons_succ])
            refine stake (i := 2) (v := (.int .i64 (j : Int))) 73 rfl (by kernel_rfl) (by kernel_rfl) (by kernel_rfl) (by kernel_rfl) (fun _ _ _ h => h) (.inl ⟨by kernel_rfl, fun w' hS => by (go_simp)⟩) hHeld ?_
            (try simp only [Act.put, List.setIfInBounds_toArray, List.set_cons_zero, List.set_cons_succ])
            refine stake (i := 3) (v := (.slice (some ⟨lk, 0, none⟩) j lc)) 74 rfl (by kernel_rfl) (by kernel_rfl) (by kernel_rfl) (by kernel_rfl) (fun _ _ _ h => h) (yields_sl_h (by kernel_rfl) (.tmp 72) (.tmp 73) rfl ⟨lk, 0, none⟩ n lc j (by kernel_rfl) (by kernel_rfl) (by omega) (by omega)) hHeld ?_
            (try simp only [Act.put, List.setIfInBounds_toArray, List.set_cons_zero, List.set_cons_succ])
            refine stake (i := 5) (v := (.slice (some ⟨lk, 0, none⟩) n lc)) 76 rfl (by kernel_rfl) (by kernel_rfl) (by kernel_rfl) (by kernel_rfl) (fun _ _ _ h => h) (.inl ⟨by kernel_rfl, fun w' hS => by (go_simp)⟩) hHeld ?_
            (try simp only [Act.put, List.setIfInBounds_toArray, List.set_cons_zero, List.set_cons_succ])
            refine stake (i := 6) (v := (.int .i64 (j : Int))) 77 rfl (by kernel_rfl) (by kernel_rfl) (by kernel_rfl) (by kernel_rfl) (fun _ _ _ h => h) (.inl ⟨by kernel_rfl, fun w' hS => by (go_simp)⟩) hHeld ?_
            (try simp only [Act.put, List.setIfInBounds_toArray, List.set_cons_zero, List.set_cons_succ])
            refine stake (i := 7) (v := (.int .i64 (d : Int))) 78 rfl (by kernel_rfl) (by kernel_rfl) (by kernel_rfl) (by kernel_rfl) (fun _ _ _ h => h) (.inl ⟨by kernel_rfl, fun w' hS => by (have hwd := HWD.out; go_simp)⟩) hHeld ?_
            (try simp only [Act.put, List.setIfInBounds_toArray, List.set_cons_zero, List.set_cons_succ])
            refine stake (i := 8) (v := (.slice (some (if lc = d then (⟨lk, 0, none⟩ : Addr) else (⟨lk, 0, none⟩ : Addr).add d)) (n - d) (lc - d))) 79 rfl (by kernel_rfl) (by kernel_rfl) (by kernel_rfl) (by kernel_rfl) (fun _ _ _ h => h) (yields_sl_l (by kernel_rfl) (.tmp 76) (.tmp 78) rfl ⟨lk, 0, none⟩ n lc d (by kernel_rfl) (by kernel_rfl) (by omega)) hHeld ?_
            (try simp only [Act.put, List.setIfInBounds_toArray, List.set_cons_zero, List.set_cons_succ])
            refine wpAnyH_ready (rs := [0]) (by kernel_rfl) (by simp) (AllReadyH.cons rfl (fun K hK => ?_) AllReadyH.nil)
            clear hHeld
            rw [if_pos (by kernel_rfl)]
            go_simp
            have h56 := HB6.out.size
            have L7 := HB6.out.alloc HB6.out.size (.cells #[] 23)
            have O7 := HO6.out.alloc (.cells #[] 23)
            have ROW := World.ownsRow_made (e := 23) (size := 1) w6 #[] 0 (Nat.le_refl _) (Nat.zero_le _) (by simp)
            have hlk6 : lk < w6.heap.size := (HO6.out.lt lk rfl).2
            have hs7 : (w6.alloc (.cells #[] 23)).heap.size = w6.heap.size + 1 := by simp
            generalize (w6.alloc (.cells #[] 23)) = w7 at *
            generalize w6.heap.size = nb at *
            refine hK.out _ _ trivial (fun hHeld => ?_)
            clear hK K
            (try simp only [Act.put, List.setIfInBounds_toArray, List.set_cons_zero, List.set_cons_succ])
            refine wpAnyH_ready (rs := [4]) (by kernel_rfl) (by simp) (AllReadyH.cons rfl (fun K hK => ?_) AllReadyH.nil)
            clear hHeld
            rw [if_pos (by kernel_rfl)]
            refine wp_append_n w7 (.tmp 71) (.tmp 74) rfl nb (.slice (some ⟨nb, 0, none⟩) 0 0) 0 [] rfl ROW (some ⟨lk, 0, none⟩) j lc (L.take j) rfl (fun e => by cases e) (src_take O7 HLL.out (by omega)) (by omega) (by omega) ?_
            intro v8 w8 O8 G8
            have L8 := L7.grown G8 (by omega) (fun j hj => by have := own_behind ROW j hj; omega)
            have P8 := own_stays O7 (fun j hj hl => G8.block j hl (fun e => by simp [Value.ownBlock] at hj e; omega))
            refine hK.out _ _ trivial (fun hHeld => ?_)
            clear hK K ROW O7 L7
            (try simp only [Act.put, List.setIfInBounds_toArray, List.set_cons_zero, List.set_cons_succ])
            refine wpAnyH_ready (rs := [9]) (by kernel_rfl) (by simp) (AllReadyH.cons rfl (fun K hK => ?_) AllReadyH.nil)
            clear hHeld
            rw [if_pos (by kernel_rfl)]
            have hs8 := G8.size
            refine wp_append_n w8 (.tmp 75) (.tmp 79) rfl nb v8 (0 + j) _ rfl O8 _ (n - d) (lc - d) (L.drop d) rfl (fun e => by cases e) (by first | exact src_drop P8 HLL.out hnlc (by omega) | (have hsd := src_drop P8 HLL.out hnlc (d := d) (by omega); rw [add_lit10, Nat.zero_add] at hsd; exact hsd)) (by omega) (by omega) ?_
            intro v9 w9 O9 G9
            have L9 := L8.grown G9 (by omega) (fun j hj => by have := own_behind O8 j hj; omega)
            have hn3 : 0 + j + (n - d) = n - 1 := by omega
            have O9' := own_base (base' := w.heap.size) (own_eq (n' := n - 1) (xs' := flat encN (L.take j ++ L.drop (j + 1))) O9 hn3 (by rw [flat_append, List.nil_append]; rw [HDD.out])) (by have := HB5.out.size; omega)
            obtain ⟨lo9, lc9, rfl⟩ := own_form' O9'
            refine hK.out _ _ trivial (fun hHeld => ?_)
            clear hK K O8 P8 G8 G9 L8 O9
            (try simp only [Act.put, List.setIfInBounds_toArray, List.set_cons_zero, List.set_cons_succ])
            refine stake (i := 10) (v := (.slice lo9 (n - 1) lc9)) 5 rfl (by kernel_rfl) (by kernel_rfl) (by kernel_rfl) (by kernel_rfl) (fun _ _ _ h => h) (.inl ⟨by kernel_rfl, fun w' hS => by (go_simp)⟩) hHeld ?_
            (try simp only [Act.put, List.setIfInBounds_toArray, List.set_cons_zero, List.set_cons_succ])
            refine wpAnyH_done (by kernel_rfl) ?_ _
            clear hHeld
            have HO9 := Lib.hid O9'
            have HB9 := Lib.hid (HB5.out.trans (L9.mono HB5.out.size))
            have HST9 := Lib.hid (HST5.out.below L9)
            have HLL9 : Hid ((L.take j ++ L.drop (j + 1)).length = n - 1) := Lib.hid (by have := HLL.out; simp; omega)
            clear O9' L9 HST5 HDONE HB5 HO5 HO6 HB6
            go_wp2_with fail
            go_roundw
            case rel => exact ⟨i + 1, L.take j ++ L.drop (j + 1), S', A ++ out, n - 1, lo9, lc9, ao5, ac5, by go_num, by omega, rfl, by first | rfl | simp, HLL9, HO9.out, HND2, HW2.out, HST9.out, HB9.out⟩
            case measure => simp [lenOf]; omega

          · have hjn : 0 < n := hn0
            obtain ⟨q, hjq⟩ : ∃ q, L[0]? = some q := ⟨_, List.getElem?_eq_getElem (by rw [HLL.out]; exact hjn)⟩
            obtain ⟨lk, rfl, hlk, hnlc, hlc, hcell⟩ := row_at HO.out HLL.out hjq
            have hqL : q ∈ L := List.mem_of_getElem? hjq
            have hqb := HW.out.left q hqL
            have hsq : sqG (mq (q : Int)) = q := by simp [sqG, mq, zeroG]
            have hc0 : codeS sqG S (mq (q : Int)) = 0 := HW.out.code sqG (mq (q : Int)) (by rw [hsq]; exact hqL)
            have hou := out_mem HND.out hjq
            have HW2 := Lib.hid (HW.out.step sqG (mq (q : Int)) (by rw [hsq]; exact hqL) (L' := L.take 0 ++ L.drop (0 + 1)) (by rw [hsq]; exact hou.2))
            have HND2 : Hid (L.take 0 ++ L.drop (0 + 1)).Nodup := Lib.hid hou.1
            have hcnt : S.count ≤ 64 := by have := HW.out.cnt; omega
            have HORD : Hid (∃ F1, Ord sqG (takeS sqG S (mq (q : Int))) F1 (A ++ outS sqG S (mq (q : Int)))) := Lib.hid (by
              obtain ⟨F1, ho⟩ := HST.out.ord
              have := ho.step sqG (mq (q : Int))
              rw [if_pos hc0] at this
              exact ⟨_, this⟩)
            have HFEW : Hid ((A ++ outS sqG S (mq (q : Int))).length ≤ 64) := Lib.hid (by
              obtain ⟨F1, ho⟩ := HORD.out
              have h1 := ho.count
              have h2 := HW2.out.cnt
              omega)
            have HT : Hid (Calls Try.prog 11 #[.pointer (some ⟨g, 0, none⟩), .agg #[.int .i64 0, .int .u32 (q : Int), .int .u64 0, .int .i64 0, .slice none 0 0, .string { data := #[] }]] wr fun e w' => ∃ oo o2, e = .returned (.tuple #[.slice oo (outS sqG S (mq (q : Int))).length o2, .int .i64 0]) ∧
                WhMid w' B g b (takeS sqG S (mq (q : Int))) A oa oc oo o2 (outS sqG S (mq (q : Int))) wr.heap.size ∧ Mv g b wr w') := Lib.hid (by
              have := stake_any HST.out.rep HW.out.inv (mq (q : Int)) (mq_deps _ _) (by show (0 : Int) ≤ (q : Int); omega) (by show (q : Int) < 4294967296; omega) (Nat.zero_le _) (by omega)
              refine this.mono fun e w' ⟨oo, o2, he, R4, O4, M4⟩ => ?_
              rw [hc0] at he
              exact ⟨oo, o2, he, HST.out.took hgB hbB R4 O4 M4, M4⟩)
            have HREP := Lib.hid HST.out.rep
            have HJQ := Lib.hid hjq
            clear hc0 hou hsq hcnt hqL HST HND HW hjq
            generalize outS sqG S (mq (q : Int)) = out at *
            generalize takeS sqG S (mq (q : Int)) = S' at *
            have hbs := HBB.out.size
            go_upto_region 22 with (first
              | (go_at_call 11; refine HT.out.mono ?_; rintro e w4 ⟨oo, o2, rfl, MID, M4⟩; have HMID := Lib.hid MID; have HB4 := Lib.hid (HBB.out.trans (M4.below hbs hgw hbw)); have HO4 := Lib.hid (row_mv HO.out HREP.out M4); clear MID M4)
              | (at_builtin; refine append_out _ rfl (.tmp 68) (.tmp 69) rfl (FF g b none oa) B oa oc A rfl HMID.out.all wr.heap.size oo o2 out rfl HMID.out.out ff_a (by have := HFEW.out; simp at this; omega) HMID.out.base ?_; intro ao5 ac5 w5 O5 G5 LC5; have HDONE := Lib.hid (HMID.out.done hgB hbB HORD.out HFEW.out O5 G5 LC5); have HB5 := Lib.hid (HB4.out.grown G5 HB4.out.size (fun j hj => by obtain ⟨x, e, rfl⟩ := own_of_slice hj; have := HMID.out.all.place x e; omega)); have HO5 := Lib.hid (row_out HO4.out HMID.out.all G5); clear O5 G5 LC5 HMID))
            have HLEN := Lib.hid hlc
            have HST5 := HDONE
            refine wp_region_held_drew (S := fun _ => True) (by kernel_rfl) trivial (fun hHeld => ?_)
            have HB6 := Lib.hid (show Below w5.heap.size w5 w5.drew from (Grw.refl w5).drew.below)
            have HO6 := Lib.hid (own_grw HO5.out (Grw.refl w5).drew)
            generalize w5.drew = w6 at *
            refine stake (i := 1) (v := (.slice (some ⟨lk, 0, none⟩) n lc)) 72 rfl (by kernel_rfl) (by kernel_rfl) (by kernel_rfl) (by kernel_rfl) (fun _ _ _ h => h) (.inl ⟨by kernel_rfl, fun w' hS => by (go_simp)⟩) hHeld ?_
            (try simp only [Act.put, List.setIfInBounds_toArray, List.set_cons_zero, List.set_cons_succ])
            refine stake (i := 2) (v := (.int .i64 0)) 73 rfl (by kernel_rfl) (by kernel_rfl) (by kernel_rfl) (by kernel_rfl) (fun _ _ _ h => h) (.inl ⟨by kernel_rfl, fun w' hS => by (go_simp)⟩) hHeld ?_
            (try simp only [Act.put, List.setIfInBounds_toArray, List.set_cons_zero, List.set_cons_succ])
            refine stake (i := 3) (v := (.slice (some ⟨lk, 0, none⟩) 0 lc)) 74 rfl (by kernel_rfl) (by kernel_rfl) (by kernel_rfl) (by kernel_rfl) (fun _ _ _ h => h) (yields_sl_h (by kernel_rfl) (.tmp 72) (.tmp 73) rfl ⟨lk, 0, none⟩ n lc 0 (by kernel_rfl) (by kernel_rfl) (by omega) (by omega)) hHeld ?_
            (try simp only [Act.put, List.setIfInBounds_toArray, List.set_cons_zero, List.set_cons_succ])
            refine stake (i := 5) (v := (.slice (some ⟨lk, 0, none⟩) n lc)) 76 rfl (by kernel_rfl) (by kernel_rfl) (by kernel_rfl) (by kernel_rfl) (fun _ _ _ h => h) (.inl ⟨by kernel_rfl, fun w' hS => by (go_simp)⟩) hHeld ?_
            (try simp only [Act.put, List.setIfInBounds_toArray, List.set_cons_zero, List.set_cons_succ])
            refine stake (i := 6) (v := (.int .i64 0)) 77 rfl (by kernel_rfl) (by kernel_rfl) (by kernel_rfl) (by kernel_rfl) (fun _ _ _ h => h) (.inl ⟨by kernel_rfl, fun w' hS => by (go_simp)⟩) hHeld ?_
            (try simp only [Act.put, List.setIfInBounds_toArray, List.set_cons_zero, List.set_cons_succ])
            refine stake (i := 7) (v := (.int .i64 1)) 78 rfl (by kernel_rfl) (by kernel_rfl) (by kernel_rfl) (by kernel_rfl) (fun _ _ _ h => h) (.inl ⟨by kernel_rfl, fun w' hS => by (have hwd := (show IntKind.i64.wrap 1 = 1 by decide); go_simp)⟩) hHeld ?_
            (try simp only [Act.put, List.setIfInBounds_toArray, List.set_cons_zero, List.set_cons_succ])
            refine stake (i := 8) (v := (.slice (some (if lc = 1 then (⟨lk, 0, none⟩ : Addr) else (⟨lk, 0, none⟩ : Addr).add 1)) (n - 1) (lc - 1))) 79 rfl (by kernel_rfl) (by kernel_rfl) (by kernel_rfl) (by kernel_rfl) (fun _ _ _ h => h) (yields_sl_l (by kernel_rfl) (.tmp 76) (.tmp 78) rfl ⟨lk, 0, none⟩ n lc 1 (by kernel_rfl) (by kernel_rfl) (by omega)) hHeld ?_
            (try simp only [Act.put, List.setIfInBounds_toArray, List.set_cons_zero, List.set_cons_succ])
            refine wpAnyH_ready (rs := [0]) (by kernel_rfl) (by simp) (AllReadyH.cons rfl (fun K hK => ?_) AllReadyH.nil)
            clear hHeld
            rw [if_pos (by kernel_rfl)]
            go_simp
            have h56 := HB6.out.size
            have L7 := HB6.out.alloc HB6.out.size (.cells #[] 23)
            have O7 := HO6.out.alloc (.cells #[] 23)
            have ROW := World.ownsRow_made (e := 23) (size := 1) w6 #[] 0 (Nat.le_refl _) (Nat.zero_le _) (by simp)
            have hlk6 : lk < w6.heap.size := (HO6.out.lt lk rfl).2
            have hs7 : (w6.alloc (.cells #[] 23)).heap.size = w6.heap.size + 1 := by simp
            generalize (w6.alloc (.cells #[] 23)) = w7 at *
            generalize w6.heap.size = nb at *
            refine hK.out _ _ trivial (fun hHeld => ?_)
            clear hK K
            (try simp only [Act.put, List.setIfInBounds_toArray, List.set_cons_zero, List.set_cons_succ])
            refine wpAnyH_ready (rs := [4]) (by kernel_rfl) (by simp) (AllReadyH.cons rfl (fun K hK => ?_) AllReadyH.nil)
            clear hHeld
            rw [if_pos (by kernel_rfl)]
            refine wp_append_n w7 (.tmp 71) (.tmp 74) rfl nb (.slice (some ⟨nb, 0, none⟩) 0 0) 0 [] rfl ROW (some ⟨lk, 0, none⟩) 0 lc (L.take 0) rfl (fun e => by cases e) (src_take O7 HLL.out (by omega)) (by omega) (by omega) ?_
            intro v8 w8 O8 G8
            have L8 := L7.grown G8 (by omega) (fun j hj => by have := own_behind ROW j hj; omega)
            have P8 := own_stays O7 (fun j hj hl => G8.block j hl (fun e => by simp [Value.ownBlock] at hj e; omega))
            refine hK.out _ _ trivial (fun hHeld => ?_)
            clear hK K ROW O7 L7
            (try simp only [Act.put, List.setIfInBounds_toArray, List.set_cons_zero, List.set_cons_succ])
            refine wpAnyH_ready (rs := [9]) (by kernel_rfl) (by simp) (AllReadyH.cons rfl (fun K hK => ?_) AllReadyH.nil)
            clear hHeld
            rw [if_pos (by kernel_rfl)]
            have hs8 := G8.size
            refine wp_append_n w8 (.tmp 75) (.tmp 79) rfl nb v8 (0 + 0) _ rfl O8 _ (n - 1) (lc - 1) (L.drop 1) rfl (fun e => by cases e) (by first | exact src_drop P8 HLL.out hnlc (by omega) | (have hsd := src_drop P8 HLL.out hnlc (d := 1) (by omega); rw [add_lit10, Nat.zero_add] at hsd; exact hsd)) (by omega) (by omega) ?_
            intro v9 w9 O9 G9
            have L9 := L8.grown G9 (by omega) (fun j hj => by have := own_behind O8 j hj; omega)
            have hn3 : 0 + 0 + (n - 1) = n - 1 := by omega
            have O9' := own_base (base' := w.heap.size) (own_eq (n' := n - 1) (xs' := flat encN (L.take 0 ++ L.drop (0 + 1))) O9 hn3 (by rw [flat_append, List.nil_append])) (by have := HB5.out.size; omega)
            obtain ⟨lo9, lc9, rfl⟩ := own_form' O9'
            refine hK.out _ _ trivial (fun hHeld => ?_)
            clear hK K O8 P8 G8 G9 L8 O9
            (try simp only [Act.put, List.setIfInBounds_toArray, List.set_cons_zero, List.set_cons_succ])
            refine stake (i := 10) (v := (.slice lo9 (n - 1) lc9)) 5 rfl (by kernel_rfl) (by kernel_rfl) (by kernel_rfl) (by kernel_rfl) (fun _ _ _ h => h) (.inl ⟨by kernel_rfl, fun w' hS => by (go_simp)⟩) hHeld ?_
            (try simp only [Act.put, List.setIfInBounds_toArray, List.set_cons_zero, List.set_cons_succ])
            refine wpAnyH_done (by kernel_rfl) ?_ _
            clear hHeld
            have HO9 := Lib.hid O9'
            have HB9 := Lib.hid (HB5.out.trans (L9.mono HB5.out.size))
            have HST9 := Lib.hid (HST5.out.below L9)
            have HLL9 : Hid ((L.take 0 ++ L.drop (0 + 1)).length = n - 1) := Lib.hid (by have := HLL.out; simp; omega)
            clear O9' L9 HST5 HDONE HB5 HO5 HO6 HB6
            go_wp2_with fail
            go_roundw
            case rel => exact ⟨i + 1, L.take 0 ++ L.drop (0 + 1), S', A ++ out, n - 1, lo9, lc9, ao5, ac5, by go_num, by omega, rfl, by first | rfl | simp, HLL9, HO9.out, HND2, HW2.out, HST9.out, HB9.out⟩
            case measure => simp [lenOf]; omega

        · obtain rfl : n = 0 := by omega
          obtain rfl : L = [] := List.eq_nil_of_length_eq_zero HLL.out
          obtain ⟨hc, hh⟩ := HW.out.done sqG
          obtain ⟨F1, hord⟩ := HST.out.ord
          have hA : A.length = k := by have := hord.count; omega
          have HSEQ := Lib.hid hord.seqs
          have HALL := Lib.hid HST.out.all
          have CO := Lib.hid (scount_any HST.out.rep)
          have HE := Lib.hid (sheld_any HST.out.rep)
          rw [hc] at CO
          rw [hh] at HE
          have hik : i = k := by omega
          subst hik
          obtain ⟨w9, hw9⟩ : ∃ w9, w9 = wr := ⟨_, rfl⟩
          subst hw9
          clear hn0 HLL HO HND HW HST hc hh hord
          have hA1 : A.length ≤ 64 := by omega
          obtain ⟨na, hna⟩ : ∃ na, na = A.length := ⟨_, rfl⟩
          have hni : na = i := by omega
          rw [← hna]
          have HNA := Lib.hid hna
          clear hna hA hA1
          subst hni
          go_wp2_with fail
          go_loopw [13] (fun si wr => ∃ j : Nat, j ≤ na ∧ si = .int .i64 j ∧ wr = w9) (fun si _ => na - (intOf si).toNat)
          case atStart => exact ⟨0, Nat.zero_le _, rfl, rfl⟩
          case round =>
            obtain ⟨j, hj, rfl, rfl⟩ := hrel
            by_cases hjn : j < na
            · obtain ⟨m, hm⟩ : ∃ m, A[j]? = some m := ⟨_, List.getElem?_eq_getElem (by rw [← HNA.out]; exact hjn)⟩
              obtain ⟨ka, x, rfl, hka, hlx, hdx, hcx⟩ := HALL.out.elem hm
              obtain ⟨d, hd⟩ : ∃ d : Nat, d = j + 1 := ⟨_, rfl⟩
              have hde : (j : Int) + 1 = (d : Int) := by omega
              have hxq : x.q = (d : Int) := by
                rw [hlx.q]
                have := HSEQ.out j m hm
                unfold sqG at this
                omega
              have c1 := hcx 1 _ rfl
              rw [hxq] at c1
              have HJD := Lib.hid hd
              clear hd hxq hcx hdx hlx hm
              go_wp2_with fail
              go_roundw
              case rel => exact ⟨j + 1, by omega, by have := HJD.out; subst this; go_num, by first | rfl | trivial⟩
              case measure => have := HJD.out; simp [intOf]; omega
            · obtain rfl : j = na := by omega
              clear hjn hj
              simp only [List.length_nil] at HE
              go_wp2_with (first
                | (go_at_call 16; refine CO.out.mono ?_; rintro e w6 ⟨rfl, rfl⟩)
                | (go_at_call 17; refine HE.out.mono ?_; rintro e w6 ⟨rfl, rfl⟩))
              go_ret
              exact ⟨rfl, HBB.out⟩
theorem walk_StreamWhole {w : World} (n : Int) (wn : (Lit.int .i64 n).wf = true) (ao : Option Addr) (len cap : Nat) (l : List Int) (hl : Lst (fun n : Int => [.int .u16 n]) 1 w ao len l ∧ ∀ n ∈ l, 0 ≤ n ∧ n ≤ 65535) :
    Calls Try.prog 6 #[.int .i64 n, .slice ao len cap] w fun e w' => e = .returned (.bool true) ∧ Below w.heap.size w w' := by
  have b0 := Go.bounds_i64 wn
  exact whole_core n (by omega) (by omega) ao len cap l w hl.1 hl.2
end Go.Proofs.Ytcnfkjjfegjecaa
