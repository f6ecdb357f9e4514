/- Layer 18: Pending. -/
import Derived.Test.YtlaenabckpjikaaVoFns
import Derived.Test.YtlaenabckpjikaaVoMap
set_option linter.unusedVariables false
set_option maxRecDepth 100000
set_option linter.unusedSimpArgs false
namespace Go.Proofs.Ytlaenabckpjikaa
open Go.RowKit Go.Sort Go.Maps

/-- Take an operation first; its slot by its number. -/
theorem vtake {P : Program} {md : Region.Mode} {ops : Array Oper} {Q : Exit → Act → World → Prop} {S : World → Prop} {i : Nat} {oi : Oper} {v : Value} {fuel : Nat} {listed : Array Bool} {a : Act} {w : World} (d : Nat) (hi : ops[i]? = some oi) (hd : oi.dst = some d)
    (hs : Region.noSelect ops = true) (hf : Region.free md ops listed i = true) (hr : (Region.ready md ops listed).contains i = true)
    (hQ : ∀ c a w, Q (.panic c) (a.put oi.dst v) w → Q (.panic c) a w) (hy : YieldsIf P ops S oi v a) (hS : S w)
    (h : wpAnyH P md ops Q S fuel (listed.setIfInBounds i true) (a.put (some d) v) w) : wpAnyH P md ops Q S (fuel + 1) listed a w :=
  wpAnyH_take hi hs hf hr hQ hy hS (by rw [hd]; exact h)
theorem wp_look18 {w : World} {b n : Nat} {F : Vw → Nat} {o : Oper} {a : Act} {K : Act → World → Prop} {Q : Exit → Act → World → Prop} (h : MapV w b F n) (m x : Operand) (hop : o.op = Op.lookup 62 m x false) (v : Vw) (hv : v.ok) (hm : a.eval m = .map (some b)) (hx : a.eval x = valV v) (q : Nat) (hq : F v = q) (d : Nat) (hd : o.dst = some d)
    (hK : K (a.put (some d) (.int .i64 (q : Int))) w) : o.wp Try.prog a w K Q := by
  subst hq
  unfold Oper.wp
  simp [execOp, hop, hm, hx, h.look v hv, Result.andThen]
  rw [← hd] at hK
  exact hK
theorem walk_look18 {w : World} {b n : Nat} {F : Vw → Nat} {ops : Array Oper} {rest : List Oper} {o : Oper} {a : Act} {Q : Exit → Act → World → Prop} (h : MapV w b F n) (hg : o.guard = none) (m x : Operand) (hop : o.op = Op.lookup 62 m x false) (v : Vw) (hv : v.ok) (hm : a.eval m = .map (some b)) (hx : a.eval x = valV v) (q : Nat) (hq : F v = q)
    (hK : wpList Try.prog ops Q rest (a.put o.dst (.int .i64 (q : Int))) w) : wpList Try.prog ops Q (o :: rest) a w := by
  subst hq
  exact walk_look h hg m x hop v hv hm hx hK
theorem wp_entry18 {w : World} {b n : Nat} {F : Vw → Nat} {o : Oper} {a : Act} {K : Act → World → Prop} {Q : Exit → Act → World → Prop} (h : MapV w b F n) (m x : Operand) (hop : o.op = Op.mapEntry 62 m x) (v : Vw) (hv : v.ok) (hn : n < maxLen) (hm : a.eval m = .map (some b)) (hx : a.eval x = valV v) (q : Nat) (hq : F v = q) (d : Nat) (hd : o.dst = some d)
    (hK : ∀ (st : Int) (w1 : World), MapV w1 b F (n + 1) → w.grownBy w1 (some b) → w1.heap.size = w.heap.size →
      (∀ (w2 : World) (x : Nat), x ≤ 1000000 → w2.heap[b]? = w1.heap[b]? → ∃ w3, (Instr.entryStore 62 (.map (some b)) (.int .i64 st) (.int .i64 (x : Int))).run Try.prog w2 = .ok () w3 ∧ MapV w3 b (setV F v x) (n + 1) ∧ w2.grownBy w3 (some b) ∧ w3.heap.size = w2.heap.size) →
      K (a.put (some d) (.tuple #[.int .i64 (q : Int), .int .i64 st])) w1) : o.wp Try.prog a w K Q := by
  subst hq
  obtain ⟨st, w1, hrun, h1, h2, h3, h4⟩ := h.entry v hv hn
  unfold Oper.wp
  simp [execOp, hop, hm, hx, hrun, Result.andThen]
  rw [← hd] at hK
  exact hK st w1 h1 h2 h3 h4
theorem wp_put18 {w w3 : World} {b : Nat} {st : Int} {val : Value} {o : Oper} {a : Act} {K : Act → World → Prop} {Q : Exit → Act → World → Prop} (m x y : Operand) (hop : o.op = Op.entryStore 62 m x y) (hm : a.eval m = .map (some b)) (hx : a.eval x = .int .i64 st) (hy : a.eval y = val)
    (hrun : (Instr.entryStore 62 (.map (some b)) (.int .i64 st) val).run Try.prog w = .ok () w3) (hd : o.dst = none) (hK : K (a.put none undef) w3) : o.wp Try.prog a w K Q := by
  unfold Oper.wp
  simp [execOp, hop, hm, hx, hy, hrun, Result.andThen]
  rw [← hd] at hK
  exact hK
/-- 'append' that says where. -/
theorem append_vw_at (w : World) {ops : Array Oper} {rest : List Oper} {o : Oper} {a : Act} {Q : Exit → Act → World → Prop} (hgd : o.guard = none) (s x : Operand)
    (ho : o.op = .call { callee := .builtin .append, args := #[s, x], argTypes := #[32, 32] })
    (base : Nat) (v : Value) (n : Nat) (xs : List Value) (hs : a.eval s = v) (hown : w.ownsRow base 31 4 v n xs)
    (g : Nat) (u : Vw) (hx : a.eval x = .slice (some ⟨g, 0, none⟩) 1 1) (hg : VwB w g u) (hn : n + 1 ≤ 200000) (hbase : base ≤ w.heap.size)
    (h : ∀ v' w', w'.ownsRow base 31 4 v' (n + 1) (xs ++ flat encV [u]) → w.grownBy w' v.ownBlock → (v'.ownBlock = v.ownBlock ∨ v'.ownBlock = some w.heap.size) → wpList Try.prog ops Q rest (a.put o.dst v') w') : wpList Try.prog ops Q (o :: rest) a w := by
  obtain ⟨i0, hi, hz0, hz1, hz2⟩ := info_parts infoVw
  refine wpList_append_own_at w hgd s x 32 ho base 31 i0 zeroVw 4 32 Try.underlying32 hi hz0 hz1 hz2 rfl (by decide) v n xs hs hown ⟨g, 0, none⟩ 1 1 (flat encV [u]) hx (by rw [flat_length encV 4 encV_length]; rfl) (fun j u' hu => ?_) (flatE_one encV_one) (by unfold maxLen; omega) (by omega) hbase (fun v' w' h1 h2 _ h4 => h v' w' h1 h2 h4)
  obtain ⟨b', o', e', R⟩ := (vw_lst hg).src (by omega)
  cases e'
  rw [add_lit18]
  exact R.flat encV_length j u' hu
theorem VwL.grown {w w' : World} {a : Option Addr} {n : Nat} {L : List Vw} {o : Option Nat} (h : VwL w a n L) (hg : w.grownBy w' o) (hn : ∀ ad, a = some ad → some ad.block ≠ o) : VwL w' a n L :=
  ⟨⟨h.at_.size, fun h0 => by
    obtain ⟨b, o', e, hr⟩ := h.at_.src h0
    refine ⟨b, o', e, fun i x hx c v hv => ?_⟩
    have hc := hr i x hx c v hv
    have hlt := World.block_lt_of_cell? _ _ hc
    rw [World.cell?_of_block (w := w) (hg.block b hlt (hn _ e))]
    exact hc⟩, h.ok⟩
/-- Amid Pending. -/
structure PdSt (w wr : World) (tb : Nat) (a5 : Option Addr) (n5 : Nat) (B Y : List Vw) (sv : Value) : Prop where
  map : MapV wr tb (fun u => Y.count u) Y.length
  base : w.heap.size ≤ tb
  own : wr.ownsRow w.heap.size 31 4 sv (onceV Y).length (flat encV (onceV Y))
  bel : Below w.heap.size w wr
  read : VwL wr a5 n5 B
  nb : ∀ ad, a5 = some ad → some ad.block ≠ sv.ownBlock ∧ ad.block ≠ tb ∧ ad.block < wr.heap.size
theorem own_nmap {w : World} {base n k tb m : Nat} {t : TypeId} {v : Value} {xs : List Value} {F : Vw → Nat} (h : w.ownsRow base t k v n xs) (hm : MapV w tb F m) : some tb ≠ v.ownBlock := by
  intro e
  obtain ⟨D, ⟨es, clock, h1, _⟩, _⟩ := hm
  rcases h.2 with ⟨rfl, _⟩ | ⟨g, c, cur, rfl, _, h3, _⟩
  · simp [Value.ownBlock] at e
  · simp [Value.ownBlock] at e
    subst e
    rw [h3] at h1
    cases h1
theorem grown_tr18 {w w' w'' : World} {o : Option Nat} (h : w.grownBy w' o) (k : w'.grownBy w'' o) : w.grownBy w'' o :=
  ⟨k.os.trans h.os, k.tape.trans h.tape, k.output.trans h.output, Nat.le_trans h.size k.size, fun i hi hn => (k.block i (Nat.lt_of_lt_of_le hi h.size) hn).trans (h.block i hi hn)⟩
section
variable {w wr w' : World} {tb n5 : Nat} {a5 : Option Addr} {B Y : List Vw} {sv : Value}
theorem PdSt.later (h : PdSt w wr tb a5 n5 B Y sv) (hb : Below wr.heap.size wr w') : PdSt w w' tb a5 n5 B Y sv :=
  ⟨h.map.below hb, h.base, own_below18 h.own hb, h.bel.trans (hb.mono h.bel.size), h.read.below hb, fun ad e => ⟨(h.nb ad e).1, (h.nb ad e).2.1, Nat.lt_of_lt_of_le (h.nb ad e).2.2 hb.size⟩⟩
/-- The map alone turned. -/
theorem PdSt.turned (h : PdSt w wr tb a5 n5 B Y sv) (hg : wr.grownBy w' (some tb)) :
    w'.ownsRow w.heap.size 31 4 sv (onceV Y).length (flat encV (onceV Y)) ∧ Below w.heap.size w w' ∧ VwL w' a5 n5 B ∧ ∀ ad, a5 = some ad → some ad.block ≠ sv.ownBlock ∧ ad.block ≠ tb ∧ ad.block < w'.heap.size := by
  refine ⟨?_, h.bel.grown hg h.bel.size (fun k hk => by cases hk; exact h.base), h.read.grown hg fun ad e e2 => (h.nb ad e).2.1 (by injection e2), fun ad e => ⟨(h.nb ad e).1, (h.nb ad e).2.1, Nat.lt_of_lt_of_le (h.nb ad e).2.2 hg.size⟩⟩
  have hne := own_nmap h.own h.map
  refine ⟨h.own.1, ?_⟩
  rcases h.own.2 with h1 | ⟨g, c, cur, h1, h2, h3, h4⟩
  · exact .inl h1
  · refine .inr ⟨g, c, cur, h1, h2, (hg.block g (Array.getElem?_eq_some_iff.1 h3).1 fun e => hne ?_).trans h3, h4⟩
    rw [h1]
    injection e with e
    rw [e]
    rfl
theorem count_next (Y : List Vw) (v : Vw) : (fun u => (Y ++ [v]).count u) = setV (fun u => Y.count u) v (Y.count v + 1) := by
  funext u
  unfold setV
  rw [List.count_append, List.count_singleton]
  by_cases e : u = v
  · subst e; simp
  · rw [if_neg e]
    have : (v == u) = false := by simpa using fun e2 => e e2.symm
    rw [this]
    rfl
/-- Behind the count. -/
structure PdMid (w wr : World) (tb : Nat) (a5 : Option Addr) (n5 : Nat) (B Y : List Vw) (v : Vw) (sv : Value) : Prop where
  map : MapV wr tb (fun u => (Y ++ [v]).count u) (Y ++ [v]).length
  base : w.heap.size ≤ tb
  own : wr.ownsRow w.heap.size 31 4 sv (onceV Y).length (flat encV (onceV Y))
  bel : Below w.heap.size w wr
  read : VwL wr a5 n5 B
  nb : ∀ ad, a5 = some ad → some ad.block ≠ sv.ownBlock ∧ ad.block ≠ tb ∧ ad.block < wr.heap.size
theorem PdMid.later {v : Vw} (h : PdMid w wr tb a5 n5 B Y v sv) (hb : Below wr.heap.size wr w') : PdMid w w' tb a5 n5 B Y v sv :=
  ⟨h.map.below hb, h.base, own_below18 h.own hb, h.bel.trans (hb.mono h.bel.size), h.read.below hb, fun ad e => ⟨(h.nb ad e).1, (h.nb ad e).2.1, Nat.lt_of_lt_of_le (h.nb ad e).2.2 hb.size⟩⟩
theorem once_yes {v : Vw} (h : v ∈ Y) : onceV (Y ++ [v]) = onceV Y := by rw [onceV_snoc]; unfold onceStep; rw [if_pos ((onceV_mem _ _).2 h)]
theorem once_no {v : Vw} (h : v ∉ Y) : onceV (Y ++ [v]) = onceV Y ++ [v] := by rw [onceV_snoc]; unfold onceStep; rw [if_neg (fun e => h ((onceV_mem _ _).1 e))]
theorem PdMid.skip {v : Vw} (h : PdMid w wr tb a5 n5 B Y v sv) (hv : v ∈ Y) : PdSt w wr tb a5 n5 B (Y ++ [v]) sv :=
  ⟨h.map, h.base, by rw [once_yes hv]; exact h.own, h.bel, h.read, h.nb⟩
theorem PdMid.add {v : Vw} {v9 : Value} (h : PdMid w wr tb a5 n5 B Y v sv) (hv : v ∉ Y) (h1 : w'.ownsRow w.heap.size 31 4 v9 ((onceV Y).length + 1) (flat encV (onceV Y) ++ flat encV [v])) (h2 : wr.grownBy w' sv.ownBlock) (h3 : v9.ownBlock = sv.ownBlock ∨ v9.ownBlock = some wr.heap.size) :
    PdSt w w' tb a5 n5 B (Y ++ [v]) v9 := by
  refine ⟨h.map.grown h2 (own_nmap h.own h.map), h.base, ?_, grown_below h.bel (Nat.le_refl _) h.own h2, h.read.grown h2 fun ad e => (h.nb ad e).1, fun ad e => ⟨?_, (h.nb ad e).2.1, Nat.lt_of_lt_of_le (h.nb ad e).2.2 h2.size⟩⟩
  · rw [once_no hv, flat_append]
    exact own_eq h1 (by simp) rfl
  · rcases h3 with e3 | e3
    · rw [e3]; exact (h.nb ad e).1
    · rw [e3]
      intro e4
      injection e4 with e4
      have := (h.nb ad e).2.2
      omega
end
theorem field_n (n e r m : Int) (w : World) : (Instr.field 31 (.agg #[.int .u64 n, .int .u64 e, .int .i64 r, .int .u64 m]) 0).run Try.prog w = .ok (.int .u64 n) w := by kernel_rfl
theorem field_m (n e r m : Int) (w : World) : (Instr.field 31 (.agg #[.int .u64 n, .int .u64 e, .int .i64 r, .int .u64 m]) 2).run Try.prog w = .ok (.int .u64 m) w := by kernel_rfl
set_option maxHeartbeats 4000000 in
theorem vpend {w : World} {ao : Option Addr} {n : Nat} {l : List Rc} (h : RcL w ao n l) (c : Nat) (hn : n ≤ 100000) (hs : sumP (psL l) ≤ 100000) :
    Calls Try.prog 14 #[.slice ao n c] w fun e w' => ∃ v, e = .returned v ∧ w'.ownsRow w.heap.size 31 4 v (pendV (psL l)).length (flat encV (pendV (psL l))) ∧ Below w.heap.size w w' := by
  have PL := vlast h c hn
  have HLO := (lastR_ok _ h.ok).n
  have HL := Lib.hid h
  have HLEN := Lib.hid h.at_.size
  have HSUM := Lib.hid hs
  have HPV := Lib.hid (show pendV (psL l) = onceV (allP (psL l) (lastR (psL l)).n) from rfl)
  clear h hs
  obtain ⟨⟨N, te, tr, tm⟩, hT⟩ : ∃ T, T = lastR (psL l) := ⟨_, rfl⟩
  rw [← hT] at PL HLO HPV
  clear hT
  simp only at HLO HPV
  unfold valV encV at PL
  have hfd := field_n N te tr tm
  have hmm := @run_makeMap Try.prog
  go_enter Try.func14, Try.ntmps14
  go_wp2_with fail
  refine PL.mono ?_
  rintro e w1 ⟨rfl, B1⟩
  have M2 := Lib.hid (MapV.made w1)
  have L2 := ((Grw.refl w1).alloc (.map #[] 0)).below
  have B2 := Lib.hid (B1.trans (L2.mono B1.size))
  have hb1 := B1.size
  clear PL L2 B1
  go_upto_region 5 with fail
  clear hfd hmm
  generalize w1.alloc (.map #[] 0) = w2 at *
  generalize w1.heap.size = tb at *
  have S2 := Lib.hid (show PdSt w w2 tb none 0 [] (allP (psL (l.take 0)) N) (.slice none 0 0) from ⟨M2.out, hb1, World.ownsRow_nil _ _ _ _, B2.out, ⟨⟨rfl, fun h => absurd h (Nat.lt_irrefl 0)⟩, fun v hv => by cases hv⟩, fun ad e => by cases e⟩)
  clear M2 B2
  go_loopw [5, 16] (fun sv si wr => ∃ k : Nat, k ≤ n ∧ si = .int .i64 k ∧ Aside (PdSt w wr tb none 0 [] (allP (psL (l.take k)) N) sv)) (fun _ si _ => n - (intOf si).toNat)
  case atStart => exact ⟨0, Nat.zero_le _, rfl, S2.out⟩
  case round =>
    obtain ⟨k, hk, rfl, HS⟩ := hrel
    clear S2
    by_cases hlt : k < n
    · obtain ⟨b, o, x, rfl, hx, hr, hin⟩ := (HL.out.below HS.out.bel).row hlt
      have HR := Lib.hid hr
      have HA := Lib.hid (show allP (psL (l.take (k + 1))) N = allP (psL (l.take k)) N ++ behindV x.p.pend N by rw [psL_take hx, allP_snoc])
      have hsum : sumP (psL (l.take k)) + x.p.pend.length ≤ 100000 := by
        have h1 : sumP (psL (l.take (k + 1))) ≤ sumP (psL l) := by
          have := sumP_take_le (psL l) (k + 1)
          unfold psL at this ⊢
          rw [← List.map_take] at this
          exact this
        rw [psL_take hx, sumP_snoc] at h1
        have := HSUM.out
        omega
      have hlen := hin.len
      have hal := allP_le (psL (l.take k)) N
      have hbl := behindV_le x.p.pend N
      have hbk : ∀ v ∈ behindV x.p.pend N, v.ok := fun v hv => hin.pend.ok v ((behindV_mem _ _ _).1 hv).1
      have HBK := Lib.hid hbk
      have B4 := ((Grw.refl wr).alloc (.cells #[.int .u64 (x.p.last.n : Int), .int .u64 (x.p.last.e : Int), .int .i64 x.p.last.r, .int .u64 (x.p.last.m : Int), .slice x.a x.k x.c] 34)).below
      have X4 := Lib.hid (RcB.new wr x)
      have PB := vbehind (hin.pend.below B4) x.c N HLO (by omega)
      have HS4 := Lib.hid (HS.out.later B4)
      obtain ⟨A, hA⟩ : ∃ A, A = allP (psL (l.take k)) N := ⟨_, rfl⟩
      rw [← hA] at HA HS4 hal
      clear hr hx B4 HS hA hin hbk
      obtain ⟨⟨⟨vn, ve, vr, vm⟩, pe⟩, pa, pk, pc⟩ := x
      simp only at HA hsum hlen hbl HBK
      unfold encRc at HR
      go_upto_region 7 with (first | (refine load_rcm rfl (.tmp 18) rfl b (o + k * 5) ⟨⟨⟨vn, ve, vr, vm⟩, pe⟩, pa, pk, pc⟩ rfl HR.out ?_) | fail)
      generalize wr.alloc (.cells #[.int .u64 vn, .int .u64 ve, .int .i64 vr, .int .u64 vm, .slice pa pk pc] 34) = w4 at *
      generalize wr.heap.size = mb at *
      clear HR
      have c4 : w4.cell? ⟨mb, 4, none⟩ = some (.slice pa pk pc) := X4.out.own.at_ 4 _ rfl
      obtain ⟨B, hB⟩ : ∃ B, B = behindV pe N := ⟨_, rfl⟩
      rw [← hB] at PB HA hbl HBK
      clear hB
      go_wp2_with fail
      refine PB.mono ?_
      rintro e w5 ⟨v5, rfl, O5, B5⟩
      obtain ⟨a5, c5, rfl⟩ := own_form' O5
      have hbs : w.heap.size ≤ w4.heap.size := HS4.out.bel.size
      have htb : tb < w4.heap.size := HS4.out.map.lt
      have S5 := Lib.hid (show PdSt w w5 tb a5 B.length B (A ++ B.take 0) u5 by
        have h5 := HS4.out.later B5
        have hown := own_at18 HS4.out.own
        rw [List.take_zero, List.append_nil]
        refine ⟨h5.map, h5.base, h5.own, h5.bel, own_vws O5 rfl HBK.out, fun ad e => ?_⟩
        subst e
        have h1 := own_at18 O5 ad.block rfl
        refine ⟨fun e2 => ?_, by omega, h1.2⟩
        have := (hown _ e2.symm).2
        omega)
      clear PB O5 B5 HS4 X4 c4
      go_upto_region 8 with fail
      go_loopw [5, 25] (fun tv si wr => ∃ j : Nat, j ≤ B.length ∧ si = .int .i64 j ∧ Aside (PdSt w wr tb a5 B.length B (A ++ B.take j) tv)) (fun _ si _ => B.length - (intOf si).toNat)
      case atStart => exact ⟨0, Nat.zero_le _, rfl, S5.out⟩
      case round =>
        obtain ⟨j, hj, rfl, HI⟩ := hrel
        clear S5
        by_cases hjl : j < B.length
        · obtain ⟨b', o', v, rfl, hv, hr, hok⟩ := HI.out.read.row hjl
          have HR := Lib.hid hr
          have HV := Lib.hid hok
          have HY := Lib.hid (show A ++ B.take (j + 1) = (A ++ B.take j) ++ [v] by rw [take_snoc hv, List.append_assoc])
          have hyl : (A ++ B.take j).length ≤ 100000 := by rw [List.length_append, List.length_take]; omega
          have htb2 := HI.out.map.lt
          have B6 := ((Grw.refl wr).alloc (.cells #[.int .u64 (v.n : Int), .int .u64 (v.e : Int), .int .i64 v.r, .int .u64 (v.m : Int)] 31)).below
          have X6 := Lib.hid (VwB.new wr v)
          have I6 := Lib.hid (HI.out.later B6)
          obtain ⟨Y, hY⟩ : ∃ Y, Y = A ++ B.take j := ⟨_, rfl⟩
          rw [← hY] at HY hyl I6
          clear hr hv B6 HI hY hok
          obtain ⟨un, ue, ur, um⟩ := v
          unfold encV at HR
          go_upto_region 10 with (first | (refine load_vwm rfl (.tmp 27) rfl b' (o' + j * 4) ⟨un, ue, ur, um⟩ rfl HR.out ?_) | fail)
          generalize wr.alloc (.cells #[.int .u64 un, .int .u64 ue, .int .i64 ur, .int .u64 um] 31) = w6 at *
          generalize wr.heap.size = xb at *
          clear HR
          obtain ⟨q, hq⟩ : ∃ q, q = Y.count ⟨un, ue, ur, um⟩ := ⟨_, rfl⟩
          have hql : q ≤ 100000 := by rw [hq]; exact Nat.le_trans List.count_le_length hyl
          have HQ := Lib.hid hq.symm
          have HCN := Lib.hid (count_next Y ⟨un, ue, ur, um⟩)
          rw [← hq] at HCN
          have HZ := Lib.hid (show q = 0 ↔ (⟨un, ue, ur, um⟩ : Vw) ∉ Y by rw [hq]; exact List.count_eq_zero)
          clear hq
          have hwr : IntKind.i64.wrap ((q : Int) + 1) = ((q + 1 : Nat) : Int) := by rw [IntKind.wrap_i64]; omega
          have hxt : tb < xb := htb2
          have HLY := Lib.hid (show (Y ++ [(⟨un, ue, ur, um⟩ : Vw)]).length = Y.length + 1 by simp)
          have hml : Y.length < maxLen := by unfold maxLen; omega
          go_cut [29] from 29 to 34 (fun _ wx => PdMid w wx tb (some ⟨b', o', none⟩) B.length B Y ⟨un, ue, ur, um⟩ u5 ∧ VwB wx xb ⟨un, ue, ur, um⟩)
          case first =>
            have X7 : VwB w6.drew xb ⟨un, ue, ur, um⟩ := X6.out
            have I7 := Lib.hid (I6.out.later (Grw.refl w6).drew.below)
            refine wp_region_held_drew (S := fun w' => VwB w' xb ⟨un, ue, ur, um⟩) (by kernel_rfl) X7 (fun hHeld => ?_)
            clear I6 X6 X7
            generalize w6.drew = w7 at *
            refine vtake (i := 0) (v := (.map (some tb))) 29 rfl (by kernel_rfl) (by kernel_rfl) (by kernel_rfl) (by kernel_rfl) (fun _ _ _ h => h) (.inl ⟨by kernel_rfl, fun w' hS => by (go_simp)⟩) hHeld ?_
            (try simp only [Act.put, List.setIfInBounds_toArray, List.set_cons_zero, List.set_cons_succ])
            refine vtake (i := 1) (v := (.agg #[.int .u64 un, .int .u64 ue, .int .i64 ur, .int .u64 um])) 30 rfl (by kernel_rfl) (by kernel_rfl) (by kernel_rfl) (by kernel_rfl) (fun _ _ _ h => h) (.inl ⟨by kernel_rfl, fun w' hS => by (have c0 := VwB.own hS; have d0 := c0.at_ 0 _ rfl; have d1 := c0.at_ 1 _ rfl; have d2 := c0.at_ 2 _ rfl; have d3 := c0.at_ 3 _ rfl; go_simp)⟩) hHeld ?_
            (try simp only [Act.put, List.setIfInBounds_toArray, List.set_cons_zero, List.set_cons_succ])
            refine wpAnyH_ready (rs := [2, 4]) (by kernel_rfl) (by simp) (AllReadyH.cons rfl (fun K hK => ?_) (AllReadyH.cons rfl (fun K hK => ?_) AllReadyH.nil))
            · rw [if_pos (by kernel_rfl)]
              refine wp_look18 I7.out.map (.tmp 29) (.tmp 30) rfl ⟨un, ue, ur, um⟩ HV.out rfl rfl q HQ.out 31 rfl ?_
              refine hK.out _ _ hHeld (fun hHeld => ?_)
              clear hK K
              (try simp only [Act.put, List.setIfInBounds_toArray, List.set_cons_zero, List.set_cons_succ])
              refine vtake (i := 3) (v := (.int .i64 ((q + 1 : Nat) : Int))) 32 rfl (by kernel_rfl) (by kernel_rfl) (by kernel_rfl) (by kernel_rfl) (fun _ _ _ h => h) (.inl ⟨by kernel_rfl, fun w' hS => by (go_simp)⟩) hHeld ?_
              (try simp only [Act.put, List.setIfInBounds_toArray, List.set_cons_zero, List.set_cons_succ])
              refine wpAnyH_ready (rs := [4]) (by kernel_rfl) (by simp) (AllReadyH.cons rfl (fun K hK => ?_) AllReadyH.nil)
              rw [if_pos (by kernel_rfl)]
              refine wp_entry18 I7.out.map (.tmp 29) (.tmp 30) rfl ⟨un, ue, ur, um⟩ HV.out hml rfl rfl q HQ.out 33 rfl ?_
              intro st w1 M1 G1 hs1 HP
              have HP := Lib.hid HP
              refine hK.out _ _ (Own.grown hHeld G1 (fun e => by injection e; omega)) (fun hHeld => ?_)
              clear hK K
              (try simp only [Act.put, List.setIfInBounds_toArray, List.set_cons_zero, List.set_cons_succ])
              refine vtake (i := 5) (v := (.int .i64 st)) 34 rfl (by kernel_rfl) (by kernel_rfl) (by kernel_rfl) (by kernel_rfl) (fun _ _ _ h => h) (.inl ⟨by kernel_rfl, fun w' hS => by (go_simp)⟩) hHeld ?_
              (try simp only [Act.put, List.setIfInBounds_toArray, List.set_cons_zero, List.set_cons_succ])
              have HP := HP.out
              refine wpAnyH_ready (rs := [6]) (by kernel_rfl) (by simp) (AllReadyH.cons rfl (fun K hK => ?_) AllReadyH.nil)
              rw [if_pos (by kernel_rfl)]
              obtain ⟨w9, hrun, M3, G3, hs3⟩ := HP w1 (q + 1) (by omega) rfl
              have HM9 := Lib.hid (show PdMid w w9 tb (some ⟨b', o', none⟩) B.length B Y ⟨un, ue, ur, um⟩ u5 by
                obtain ⟨t1, t2, t3, t4⟩ := I7.out.turned (grown_tr18 G1 G3)
                exact ⟨by rw [HCN.out, HLY.out]; exact M3, I7.out.base, t1, t2, t3, t4⟩)
              have X9 : VwB w9 xb ⟨un, ue, ur, um⟩ := Own.grown hHeld G3 (fun e => by injection e; omega)
              refine wp_put18 (.tmp 29) (.tmp 34) (.tmp 32) rfl rfl rfl rfl hrun rfl ?_
              refine hK.out _ _ X9 (fun hHeld => ?_)
              clear hK K
              (try simp only [Act.put, List.setIfInBounds_toArray, List.set_cons_zero, List.set_cons_succ])
              refine wpAnyH_done (by kernel_rfl) ?_ _
              go_wp2_with fail
              go_meet
              exact ⟨HM9.out, hHeld⟩
            · rw [if_pos (by kernel_rfl)]
              refine wp_entry18 I7.out.map (.tmp 29) (.tmp 30) rfl ⟨un, ue, ur, um⟩ HV.out hml rfl rfl q HQ.out 33 rfl ?_
              intro st w1 M1 G1 hs1 HP
              have HP := Lib.hid HP
              refine hK.out _ _ (Own.grown hHeld G1 (fun e => by injection e; omega)) (fun hHeld => ?_)
              clear hK K
              (try simp only [Act.put, List.setIfInBounds_toArray, List.set_cons_zero, List.set_cons_succ])
              refine vtake (i := 5) (v := (.int .i64 st)) 34 rfl (by kernel_rfl) (by kernel_rfl) (by kernel_rfl) (by kernel_rfl) (fun _ _ _ h => h) (.inl ⟨by kernel_rfl, fun w' hS => by (go_simp)⟩) hHeld ?_
              (try simp only [Act.put, List.setIfInBounds_toArray, List.set_cons_zero, List.set_cons_succ])
              refine wpAnyH_ready (rs := [2]) (by kernel_rfl) (by simp) (AllReadyH.cons rfl (fun K hK => ?_) AllReadyH.nil)
              rw [if_pos (by kernel_rfl)]
              refine wp_look18 M1 (.tmp 29) (.tmp 30) rfl ⟨un, ue, ur, um⟩ HV.out rfl rfl q HQ.out 31 rfl ?_
              refine hK.out _ _ hHeld (fun hHeld => ?_)
              clear hK K
              (try simp only [Act.put, List.setIfInBounds_toArray, List.set_cons_zero, List.set_cons_succ])
              refine vtake (i := 3) (v := (.int .i64 ((q + 1 : Nat) : Int))) 32 rfl (by kernel_rfl) (by kernel_rfl) (by kernel_rfl) (by kernel_rfl) (fun _ _ _ h => h) (.inl ⟨by kernel_rfl, fun w' hS => by (go_simp)⟩) hHeld ?_
              (try simp only [Act.put, List.setIfInBounds_toArray, List.set_cons_zero, List.set_cons_succ])
              have HP := HP.out
              refine wpAnyH_ready (rs := [6]) (by kernel_rfl) (by simp) (AllReadyH.cons rfl (fun K hK => ?_) AllReadyH.nil)
              rw [if_pos (by kernel_rfl)]
              obtain ⟨w9, hrun, M3, G3, hs3⟩ := HP w1 (q + 1) (by omega) rfl
              have HM9 := Lib.hid (show PdMid w w9 tb (some ⟨b', o', none⟩) B.length B Y ⟨un, ue, ur, um⟩ u5 by
                obtain ⟨t1, t2, t3, t4⟩ := I7.out.turned (grown_tr18 G1 G3)
                exact ⟨by rw [HCN.out, HLY.out]; exact M3, I7.out.base, t1, t2, t3, t4⟩)
              have X9 : VwB w9 xb ⟨un, ue, ur, um⟩ := Own.grown hHeld G3 (fun e => by injection e; omega)
              refine wp_put18 (.tmp 29) (.tmp 34) (.tmp 32) rfl rfl rfl rfl hrun rfl ?_
              refine hK.out _ _ X9 (fun hHeld => ?_)
              clear hK K
              (try simp only [Act.put, List.setIfInBounds_toArray, List.set_cons_zero, List.set_cons_succ])
              refine wpAnyH_done (by kernel_rfl) ?_ _
              go_wp2_with fail
              go_meet
              exact ⟨HM9.out, hHeld⟩
          case rest =>
            obtain ⟨hmid, hx9⟩ := hcut
            have c0 : wc.cell? ⟨xb, 0, none⟩ = some (.int .u64 un) := hx9.own.at_ 0 _ rfl
            have c1 : wc.cell? ⟨xb, 1, none⟩ = some (.int .u64 ue) := hx9.own.at_ 1 _ rfl
            have c2 : wc.cell? ⟨xb, 2, none⟩ = some (.int .i64 ur) := hx9.own.at_ 2 _ rfl
            have c3 : wc.cell? ⟨xb, 3, none⟩ = some (.int .u64 um) := hx9.own.at_ 3 _ rfl
            have HM := Lib.hid hmid
            have hq1 : (fun u => (Y ++ [(⟨un, ue, ur, um⟩ : Vw)]).count u) ⟨un, ue, ur, um⟩ = q + 1 := by rw [HCN.out, setV_same]
            have HQ1 := Lib.hid hq1
            clear hmid hq1 I6 X6 hwr
            by_cases hz : q = 0
            · have HNV := Lib.hid (HZ.out.1 hz)
              subst hz
              have L8 := ((Grw.refl wc).alloc (.cells #[.int .u64 un, .int .u64 ue, .int .i64 ur, .int .u64 um] 31)).below
              have H8 := Lib.hid (HM.out.later L8)
              have N8 := Lib.hid (VwB.new wc ⟨un, ue, ur, um⟩)
              have hol : (onceV Y).length ≤ 100000 := Nat.le_trans (onceV_le Y) hyl
              have hbz := H8.out.bel.size
              clear L8
              go_wp2_with (first | (refine walk_look18 HM.out.map rfl (.tmp 35) (.tmp 36) rfl ⟨un, ue, ur, um⟩ HV.out rfl rfl 1 HQ1.out ?_) | (at_builtin; refine append_vw_at _ rfl (.tmp 39) (.tmp 41) rfl w.heap.size _ _ _ rfl H8.out.own wc.heap.size ⟨un, ue, ur, um⟩ rfl N8.out (by omega) hbz ?_; intro v9 w9 h1 h2 h3))
              have S9 := H8.out.add HNV.out h1 h2 h3
              rw [← HY.out] at S9
              have HS9 := Lib.hid S9
              clear S9 h1 h2 h3 H8 N8 HM c0 c1 c2 c3
              go_wp2
              go_roundw
              case rel => exact ⟨j + 1, by omega, by go_num, HS9.out⟩
              case measure => simp [intOf]; omega
            · have HNV := Lib.hid (show (⟨un, ue, ur, um⟩ : Vw) ∈ Y from Classical.byContradiction fun e => hz (HZ.out.2 e))
              have S9 := HM.out.skip HNV.out
              rw [← HY.out] at S9
              have HS9 := Lib.hid S9
              clear S9
              have hq0 : ((q + 1 : Nat) : Int) ≠ 1 := by omega
              go_wp2_with (first | (refine walk_look18 HM.out.map rfl (.tmp 35) (.tmp 36) rfl ⟨un, ue, ur, um⟩ HV.out rfl rfl (q + 1) HQ1.out ?_) | fail)
              go_roundw
              case rel => exact ⟨j + 1, by omega, by go_num, HS9.out⟩
              case measure => simp [intOf]; omega
        · obtain rfl : j = B.length := by omega
          have HI2 := HI.out
          rw [List.take_of_length_le (Nat.le_refl _), ← HA.out] at HI2
          have HS9 := Lib.hid (show PdSt w wr tb none 0 [] (allP (psL (l.take (k + 1))) N) u5 from ⟨HI2.map, HI2.base, HI2.own, HI2.bel, ⟨⟨rfl, fun h => absurd h (Nat.lt_irrefl 0)⟩, fun v hv => by cases hv⟩, fun ad e => by cases e⟩)
          clear HI2 HI
          go_wp2
          go_roundw
          case rel => exact ⟨k + 1, by omega, by go_num, HS9.out⟩
          case measure => simp [intOf]; omega
    · obtain rfl : k = n := by omega
      have HF := Lib.hid (show onceV (allP (psL (l.take k)) N) = pendV (psL l) by rw [HPV.out, List.take_of_length_le (by rw [HLEN.out]; exact Nat.le_refl _)])
      have HO := Lib.hid (own_eq HS.out.own (congrArg List.length HF.out) (congrArg (flat encV) HF.out))
      have HB := Lib.hid HS.out.bel
      clear HS
      go_wp2
      go_ret
      exact ⟨_, rfl, HO.out, HB.out⟩
end Go.Proofs.Ytlaenabckpjikaa
