import Derived.Test.YtibngfpjdookkaaTkKit
import Derived.Deep.Upon
import Derived.Test.YtibngfpjdookkaaPkVal
import Derived.Test.YtibngfpjdookkaaRefRead
/- The document's reader: a vector. -/
set_option linter.unusedVariables false
set_option linter.unusedSimpArgs false
namespace Go.Proofs.Ytibngfpjdookkaa
open Go.RowKit Go.Sort

/-- A row of the call's own is behind what was there. -/
theorem own_behind {w : World} {base n k : Nat} {t : TypeId} {v : Value} {xs : List Value} (h : w.ownsRow base t k v n xs) : ∀ g, v.ownBlock = some g → base ≤ g := by
  intro g hg
  rcases h.2 with ⟨rfl, _⟩ | ⟨g', c, cur, rfl, hb, _⟩
  · simp [Value.ownBlock] at hg
  · simp [Value.ownBlock] at hg; omega
theorem grown_more {a w w' : World} {b : Nat} {o : Option Nat} (h : a.grownBy w (some b)) (hg : w.grownBy w' o) (ho : ∀ k, o = some k → a.heap.size ≤ k) : a.grownBy w' (some b) :=
  ⟨hg.os.trans h.os, hg.tape.trans h.tape, hg.output.trans h.output, Nat.le_trans h.size hg.size, fun k hk hn => (hg.block k (Nat.lt_of_lt_of_le hk h.size) (by intro e; have := ho k e.symm; omega)).trans (h.block k hk hn)⟩
theorem Own.grownO {w w' : World} {g : Nat} {ty : TypeId} {cs : Array Value} {o : Option Nat} (h : Own w g ty cs) (hg : w.grownBy w' o) (ho : ∀ k, o = some k → g < k) : Own w' g ty cs :=
  h.grown hg (by intro e; have := ho g e.symm; omega)
theorem row_grown {w w' : World} {base n k b : Nat} {t : TypeId} {v : Value} {xs : List Value} (h : w.ownsRow base t k v n xs) (hg : w.grownBy w' (some b)) (hb : b < base) : w'.ownsRow base t k v n xs := by
  refine ⟨h.1, ?_⟩
  rcases h.2 with h1 | ⟨g, c, cur, h1, h2, h3, h4⟩
  · exact .inl h1
  · exact .inr ⟨g, c, cur, h1, h2, (hg.block g (Array.getElem?_eq_some_iff.1 h3).1 (by intro e; cases e; omega)).trans h3, h4⟩
theorem row_below {w w' : World} {base n k : Nat} {t : TypeId} {v : Value} {xs : List Value} (h : w.ownsRow base t k v n xs) (hg : Below w.heap.size w w') : w'.ownsRow base t k v n xs := by
  refine ⟨h.1, ?_⟩
  rcases h.2 with h1 | ⟨g, c, cur, h1, h2, h3, h4⟩
  · exact .inl h1
  · exact .inr ⟨g, c, cur, h1, h2, (hg.block g (Array.getElem?_eq_some_iff.1 h3).1).trans h3, h4⟩
/-- Numbers as cells. -/
def cellsN (l : List Nat) : List Value := l.map fun x : Nat => Value.int .u32 (x : Int)
theorem cellsN_snoc (l : List Nat) (x : Nat) : cellsN (l ++ [x]) = cellsN l ++ [.int .u32 (x : Int)] := by unfold cellsN; simp
theorem vec_of_row {w : World} {B n : Nat} {v : Value} {l : List Nat} (h : w.ownsRow B 29 1 v n (cellsN l)) (hl : Words l) : ∃ c : Vc, v = .slice c.a c.n c.c ∧ c.n = n ∧ OwnVec B w c l := by
  have hlen : l.length = n := by have := h.1; unfold cellsN at this; simpa using this
  rcases h.2 with ⟨rfl, h0⟩ | ⟨g, c, cur, rfl, hb, hg, hnc, hc, hsz, hcur⟩
  · refine ⟨Vc.nil, rfl, h0.symm, ⟨by rw [hlen, h0]; rfl, .inl rfl, hl⟩⟩
  · refine ⟨⟨some ⟨g, 0, none⟩, n, c⟩, rfl, rfl, ⟨hlen, .inr ⟨g, cur, rfl, hb, hg, fun j x hj => ?_⟩, hl⟩⟩
    have h1 : (cellsN l)[j]? = some (.int .u32 (x : Int)) := by unfold cellsN; rw [List.getElem?_map, hj]; rfl
    rw [← hcur, List.getElem?_take] at h1
    split at h1
    · rw [← Array.getElem?_toList]; exact h1
    · cases h1

/-- Amid the loop: so many numbers were taken, up to there. -/
structure VecRel (s : ByteArray) (n a1 c1 k ak ck : Nat) (vs : List Nat) : Prop where
  len : vs.length = k
  words : Words vs
  le : ak ≤ a1 + 4 * k
  rel : (c1 ≠ 0 ∧ ck = c1 ∧ k = 0) ∨ (c1 = 0 ∧ ck = 0 ∧ ManyAt (getN 4) (restB s a1) k vs (restB s ak) ∧ ak ≤ s.size) ∨ (c1 = 0 ∧ ck ≠ 0 ∧ getMany (getN 4) n (restB s a1) = .error ck)
theorem VecRel.begin {s : ByteArray} {n a1 c1 : Nat} (h : c1 = 0 → a1 ≤ s.size) : VecRel s n a1 c1 0 a1 c1 [] := by
  refine ⟨rfl, fun v hv => (by cases hv), by omega, ?_⟩
  by_cases hc : c1 = 0
  · exact .inr (.inl ⟨hc, hc, ManyAt.begin _ _, h hc⟩)
  · exact .inl ⟨hc, rfl, rfl⟩
theorem VecRel.step {s : ByteArray} {n a1 c1 k ak c' v : Nat} {vs : List Nat} (h : VecRel s n a1 c1 k ak 0 vs) (hk : k < n) (hv : v < 256 ^ 4) (hT : TR (getN 4) s ak 0 (ak + 4) c' v) : VecRel s n a1 c1 (k + 1) (ak + 4) c' (vs ++ [v]) := by
  refine ⟨by rw [List.length_append, h.len]; rfl, ?_, by have := h.le; omega, ?_⟩
  · intro x hx
    rcases List.mem_append.1 hx with h1 | h1
    · exact h.words x h1
    · rw [List.mem_singleton.1 h1]; exact hv
  · rcases h.rel with ⟨h1, h2, _⟩ | ⟨h1, _, hm, hs⟩ | ⟨_, h2, _⟩
    · exact absurd h2.symm h1
    · rcases hT with ⟨h2, _⟩ | ⟨_, h2, hG, hs'⟩ | ⟨_, h2, hG⟩
      · exact absurd rfl h2
      · exact .inr (.inl ⟨h1, h2, hm.step hG, hs'⟩)
      · exact .inr (.inr ⟨h1, h2, hm.error hk hG⟩)
    · exact absurd rfl h2
theorem VecRel.done {s : ByteArray} {n a1 c1 k ak ck : Nat} {vs : List Nat} (h : VecRel s n a1 c1 k ak ck vs) (hk : ck = 0 → k = n) : TR (getNs n) s a1 c1 ak ck vs := by
  rcases h.rel with ⟨h1, h2, _⟩ | ⟨h1, h2, hm, hs⟩ | ⟨h1, h2, hG⟩
  · exact .inl ⟨h1, h2⟩
  · have := hk h2
    subst this
    exact .inr (.inl ⟨h1, h2, by rw [getNs_many]; exact hm.done, hs⟩)
  · exact .inr (.inr ⟨h1, h2, by rw [getNs_many]; exact hG⟩)

def VecPost (w : World) (b : Nat) (s : ByteArray) (a c : Nat) (e : Ending) (w' : World) : Prop :=
  ∃ (l : List Nat) (v : Vc) (a' c' : Nat), e = .returned (.slice v.a v.n v.c) ∧ OwnVec w.heap.size w' v l ∧ a' ≤ a + 1100 ∧ Tk w' b s a' c' ∧ w.grownBy w' (some b) ∧ TR getV s a c a' c' l
set_option maxHeartbeats 4000000 in
theorem tvector {w : World} {b : Nat} {s : ByteArray} {a c : Nat} (h : Tk w b s a c) (ha : a ≤ 2251799813685248) (hs : s.size ≤ 1099511627776) :
    Calls Try.prog 56 #[.pointer (some ⟨b, 0, none⟩)] w (VecPost w b s a c) := by
  have hn : Calls Try.prog 55 #[.pointer (some ⟨b, 0, none⟩), .int .i64 1] w (NumPost 1 w b s a c) := tnum h 1 (by decide) (by decide) (by omega) hs
  have hlt := h.lt
  obtain ⟨i0, hi, hz0, hz1, hz2⟩ := info_parts Try.info32
  clear h
  go_enter Try.func56, Try.ntmps56
  go_wp2_with fail
  refine hn.mono ?_
  rintro e w1 ⟨n, c1, rfl, hn256, T1, G1, R1⟩
  have hn256 : n < 256 := hn256
  have hwv : IntKind.i64.wrap (n : Int) = (n : Int) := by rw [IntKind.wrap_i64]; omega
  have hd : decide ((64 : Int) < (n : Int)) = decide (64 < n) := by apply decide_eq_decide.2; omega
  have hb : Calls Try.prog 27 #[.pointer (some ⟨b, 0, none⟩), .int .i64 3, .bool (decide (64 < n))] w1 fun e' w' => e' = .returned (.tuple #[]) ∧ Tk w' b s (a + 1) (badC c1 3 (decide (64 < n))) ∧ w1.grownBy w' (some b) := tbad T1 3 (decide (64 < n)) (by decide)
  have HR : Hid (∀ (a' c' : Nat) (l : List Nat), TR (getNs n) s (a + 1) (badC c1 3 (decide (64 < n))) a' c' l → TR getV s a c a' c' l) := Lib.hid (fun a' c' l hT => R1.and (TR.bad (by decide) hT))
  have HI : Hid (badC c1 3 (decide (64 < n)) = 0 → a + 1 ≤ s.size) := Lib.hid (fun h => R1.in_bad (by decide) h)
  clear R1 hn
  generalize badC c1 3 (decide (64 < n)) = c2 at *
  generalize decide (64 < n) = q at *
  go_wp2_with fail
  refine hb.mono ?_
  rintro e w2 ⟨rfl, T2, G2⟩
  have G2 := grown_tr G1 G2
  have R0 : w2.ownsRow w.heap.size 29 1 (.slice none 0 0) 0 (cellsN []) := World.ownsRow_nil _ _ _ _
  have V0 := VecRel.begin (s := s) (n := n) (a1 := a + 1) (c1 := c2) HI.out
  clear hb T1 G1 HI hwv hd
  go_wp2
  go_loopw [4, 5] (fun out i wr => ∃ (k ak ck cap : Nat) (ao : Option Addr) (vs : List Nat), k ≤ n ∧ i = .int .i64 (k : Int) ∧ out = .slice ao k cap ∧ wr.ownsRow w.heap.size 29 1 (.slice ao k cap) k (cellsN vs) ∧ Tk wr b s ak ck ∧ w.grownBy wr (some b) ∧ VecRel s n (a + 1) c2 k ak ck vs) (fun _ i _ => n - (intOf i).toNat)
  case atStart => exact ⟨0, a + 1, c2, 0, none, [], Nat.zero_le _, rfl, rfl, R0, T2, G2, V0⟩
  case round =>
    clear R0 T2 G2 V0
    obtain ⟨k, ak, ck, cap, ao, vs, hk, rfl, rfl, R, T, G, V⟩ := hrel
    have t2 := T.c2
    by_cases hkn : k < n
    · by_cases hck : ck = 0
      · subst hck
        have hle := V.le
        have HN : Calls Try.prog 55 #[.pointer (some ⟨b, 0, none⟩), .int .i64 4] wr (NumPost 4 wr b s ak 0) := tnum T 4 (by decide) (by decide) (by omega) hs
        have HV := Lib.hid V
        have HRow := Lib.hid R
        have HG := Lib.hid G
        have gsz := G.size
        clear T V R G hle
        go_wp2_with (first
          | (go_at_call 55; refine HN.mono ?_; rintro e w3 ⟨v, c', rfl, hv, T3, G3, R3⟩; (have hv32 : v < 4294967296 := hv); (have hwr : IntKind.u32.wrap (v : Int) = (v : Int) := by rw [IntKind.wrap_u32]; omega); (have HT3 := Lib.hid T3); (have HG3 := Lib.hid G3); (have HR3 := Lib.hid R3); (have HRow3 := Lib.hid (row_grown HRow.out G3 hlt)); clear HN t2 T3 G3 R3)
          | (at_builtin; refine wpList_append_own _ rfl (.tmp 25) (.tmp 29) 30 rfl w.heap.size 29 i0 (.int .u32 0) 1 4 Try.underlying30 hi hz0 hz1 hz2 rfl (by decide) (.slice ao k cap) k (cellsN vs) rfl (HRow3.out.alloc _) ⟨w3.heap.size, 0, none⟩ 1 1 [.int .u32 (v : Int)] rfl rfl (cell_one_new _ _ _) (by simp [Value.oneCell']) (by unfold maxLen; omega) (by omega) (by simp; have := HG3.out.size; omega) ?_; intro v' w4 hown hgrow _))
        have hvs : cellsN vs ++ [.int .u32 (v : Int)] = cellsN (vs ++ [v]) := (cellsN_snoc vs v).symm
        rw [hvs] at hown
        obtain ⟨ao', cap', rfl⟩ : ∃ ao' cap', v' = .slice ao' (k + 1) cap' := by
          rcases hown.2 with ⟨h1, h2⟩ | ⟨g, c, cur, h1, _⟩
          · omega
          · exact ⟨_, _, h1⟩
        have ho : ∀ q, (Value.slice ao k cap).ownBlock = some q → w.heap.size ≤ q := own_behind HRow3.out
        have T4 : Tk w4 b s (ak + 4) c' := (HT3.out.own.below ((Grw.refl w3).alloc _).below HT3.out.lt).grownO hgrow (fun q hq => by have := ho q hq; omega)
        have G4 : w.grownBy w4 (some b) := grown_more (grown_more (grown_tr HG.out HG3.out) (grown_alloc w3 (.cells #[.int .u32 (v : Int)] 29) none) (fun q hq => by cases hq)) hgrow ho
        have V4 := HV.out.step hkn hv HR3.out
        have HA := Lib.hid hown
        have HB := Lib.hid T4
        have HC := Lib.hid G4
        have HD := Lib.hid V4
        clear hown hgrow T4 G4 V4 HT3 HG3 HR3 HRow3 hwr
        go_wp2
        go_roundw
        case rel => exact ⟨k + 1, ak + 4, c', cap', ao', vs ++ [v], by omega, by go_num, rfl, HA.out, HB.out, HC.out, HD.out⟩
        case measure => simp [intOf]; omega
      · have hne : ((ck : Int) == 0) = false := by rw [beq_eq_false_iff_ne]; omega
        obtain ⟨vc, hvc, hn', hO⟩ := vec_of_row R V.words
        have hle := V.le
        have HF : Hid (VecPost w b s a c (.returned (.slice ao k cap)) wr) := Lib.hid ⟨vs, vc, ak, ck, by rw [hvc], hO, by omega, T, G, HR.out _ _ _ (V.done (fun h => absurd h hck))⟩
        clear T V R G hvc hO hn' hle
        go_wp2
        go_ret
        exact HF.out
    · obtain rfl : k = n := by omega
      obtain ⟨vc, hvc, hn', hO⟩ := vec_of_row R V.words
      have hle := V.le
      have HF : Hid (VecPost w b s a c (.returned (.slice ao k cap)) wr) := Lib.hid ⟨vs, vc, ak, ck, by rw [hvc], hO, by omega, T, G, HR.out _ _ _ (V.done (fun h => rfl))⟩
      clear T V R G hvc hO hn' hle
      go_wp2
      go_ret
      exact HF.out
end Go.Proofs.Ytibngfpjdookkaa

/- The document's reader: an exchange. -/
set_option linter.unusedVariables false
set_option linter.unusedSimpArgs false
namespace Go.Proofs.Ytibngfpjdookkaa
open Go.RowKit Go.Sort

/-- Amid a method that fills a variable: the reader, the result's block, the variable's. -/
structure MidSt (w W : World) (b : Nat) (s : ByteArray) (a c : Nat) (ty : TypeId) (z : Array Value) (g : Nat) (cs : Array Value) : Prop where
  tk : Tk W b s a c
  res : Own W w.heap.size ty z
  row : Own W g ty cs
  gr : w.grownBy W (some b)
  lt : b < w.heap.size
  ge : w.heap.size < g
theorem MidSt.go {w W W' : World} {b : Nat} {s : ByteArray} {a c a' c' : Nat} {ty : TypeId} {z : Array Value} {g : Nat} {cs : Array Value} (h : MidSt w W b s a c ty z g cs) (ht : Tk W' b s a' c') (hg : W.grownBy W' (some b)) : MidSt w W' b s a' c' ty z g cs :=
  have hl := h.lt
  have hge := h.ge
  ⟨ht, h.res.grown hg (by intro e; cases e; omega), h.row.grown hg (by intro e; cases e; omega), grown_tr h.gr hg, h.lt, h.ge⟩
theorem MidSt.set {w W : World} {b : Nat} {s : ByteArray} {a c : Nat} {ty : TypeId} {z : Array Value} {g : Nat} {cs : Array Value} (h : MidSt w W b s a c ty z g cs) (j : Nat) (v : Value) : MidSt w (W.setCell ⟨g, j, none⟩ v) b s a c ty z g (cs.setIfInBounds j v) :=
  have hl := h.lt
  have hge := h.ge
  ⟨h.tk.own.set_other _ _ _ (by omega), h.res.set_other _ _ _ (by omega), h.row.set j v, grown_set h.gr (by omega) j v, h.lt, h.ge⟩
theorem MidSt.below {w W W' : World} {b : Nat} {s : ByteArray} {a c : Nat} {ty : TypeId} {z : Array Value} {g : Nat} {cs : Array Value} (h : MidSt w W b s a c ty z g cs) (hb : Below W.heap.size W W') : MidSt w W' b s a c ty z g cs :=
  h.go (h.tk.later hb) ⟨hb.os, hb.tape, hb.output, hb.size, fun k hk _ => hb.block k hk⟩
theorem MidSt.sz {w W : World} {b : Nat} {s : ByteArray} {a c : Nat} {ty : TypeId} {z : Array Value} {g : Nat} {cs : Array Value} (h : MidSt w W b s a c ty z g cs) : g < W.heap.size := h.row.lt

theorem ex_size : (Try.prog.info? 50).map (·.size) = some 6 := by kernel_rfl
theorem encX_all (x : PX) (v : Vc) : (encX x v).toArray.all (·.oneCell') = true := by simp [encX, Value.oneCell']
def zeroXs : Array Value := #[.int .i64 0, .int .u64 0, .int .i64 0, .slice none 0 0, .int .u64 0, .int .i64 0]
theorem load_ex {ops : Array Oper} {rest : List Oper} {o : Oper} {A : Act} {w : World} {Q : Exit → Act → World → Prop} (hgd : o.guard = none) (y : Operand) (ho : o.op = .load 50 y)
    (g : Nat) (hx : A.eval y = .pointer (some ⟨g, 0, none⟩)) {x : PX} {v : Vc} (hg : Own w g 50 (encX x v).toArray)
    (h : wpList Try.prog ops Q rest (A.put o.dst (.agg (encX x v).toArray)) w) : wpList Try.prog ops Q (o :: rest) A w :=
  wpList_load_row hgd 50 y ho g hx 50 _ _ _ hg Try.underlying50 rfl ex_size h
theorem store_ex {ops : Array Oper} {rest : List Oper} {o : Oper} {A : Act} {w : World} {Q : Exit → Act → World → Prop} (hgd : o.guard = none) (y z : Operand) (ho : o.op = .store 50 y z)
    (g : Nat) {x : PX} {v : Vc} (hx : A.eval y = .pointer (some ⟨g, 0, none⟩)) (hy : A.eval z = .agg (encX x v).toArray)
    (hg : Own w g 50 zeroXs)
    (h : wpList Try.prog ops Q rest (A.put o.dst undef) (w.setRow g (encX x v).toArray)) : wpList Try.prog ops Q (o :: rest) A w :=
  wpList_store_row hgd 50 y z ho g _ hx hy 50 _ hg ex_size rfl (encX_all _ _) h

def ExPost (w : World) (b : Nat) (s : ByteArray) (a c : Nat) (e : Ending) (w' : World) : Prop :=
  ∃ (x : PX) (v : Vc) (a' c' : Nat), e = .returned (.agg (encX x v).toArray) ∧ OwnVec w.heap.size w' v x.cnt ∧ a' ≤ a + 1200 ∧ Tk w' b s a' c' ∧ w.grownBy w' (some b) ∧ TR getX s a c a' c' x
set_option maxHeartbeats 4000000 in
theorem texchange {w : World} {b : Nat} {s : ByteArray} {a c : Nat} (h : Tk w b s a c) (ha : a ≤ 1125899906842624) (hs : s.size ≤ 1099511627776) :
    Calls Try.prog 58 #[.pointer (some ⟨b, 0, none⟩)] w (ExPost w b s a c) := by
  have T0 := h.later ((Grw.refl w).alloc (.cells zeroXs 50)).below
  have G0 := grown_alloc w (.cells zeroXs 50) (some b)
  have O0 := Own.new w 50 zeroXs
  have hlt := h.lt
  have hn := tprocess T0 (by omega) hs
  unfold zeroXs at hn T0 G0 O0
  clear h
  go_enter Try.func58, Try.ntmps58
  go_wp2_with fail
  refine hn.mono ?_
  rintro e w1 ⟨p, c1, rfl, hp, T1, G1, R1⟩
  have S1 : MidSt w (w1.alloc (.cells #[.int .i64 (p : Int), .int .u64 0, .int .i64 0, .slice none 0 0, .int .u64 0, .int .i64 0] 50)) b s (a + 1) c1 50 zeroXs w1.heap.size #[.int .i64 (p : Int), .int .u64 0, .int .i64 0, .slice none 0 0, .int .u64 0, .int .i64 0] :=
    ⟨T1.later ((Grw.refl w1).alloc _).below, (O0.grown G1 (by intro e; cases e; omega)).below ((Grw.refl w1).alloc _).below (by have := G1.size; simp at this; omega), Own.new _ _ _, grown_tr (grown_tr G0 G1) (grown_alloc _ _ _), hlt, by have := G1.size; simp at this; omega⟩
  clear hn T0 G0 O0 T1 G1
  go_upto_region 2 with fail
  generalize (w1.alloc (.cells #[.int .i64 (p : Int), .int .u64 0, .int .i64 0, .slice none 0 0, .int .u64 0, .int .i64 0] 50)) = W1 at *
  generalize w1.heap.size = g at *
  have hn := tconf S1.tk (by omega) hs
  go_wp2_with fail
  refine hn.mono ?_
  rintro e w2 ⟨ce, cr, c2, rfl, hce, hcr, T2, G2, R2⟩
  have S2 := S1.go T2 G2
  have d1 := S2.row.at_ 1 _ rfl
  have d2 := S2.row.at_ 2 _ rfl
  have f1 := S2.row.free 1
  have f2 := S2.row.free 2
  have S3 := (S2.set 1 (.int .u64 (ce : Int))).set 2 (.int .i64 (cr : Int))
  clear hn S1 T2 G2 S2
  go_upto_region 3 with fail
  clear d1 d2 f1 f2
  generalize (w2.setCell ⟨g, 1, none⟩ (.int .u64 (ce : Int))).setCell ⟨g, 2, none⟩ (.int .i64 (cr : Int)) = W3 at *
  have hn := tvector S3.tk (by omega) hs
  go_wp2_with fail
  refine hn.mono ?_
  rintro e w4 ⟨l, ⟨va, vn, vc⟩, a4, c4, rfl, V4, hle, T4, G4, R4⟩
  have S4 := S3.go T4 G4
  have hgB := S3.sz
  have d3 := S4.row.at_ 3 _ rfl
  have f3 := S4.row.free 3
  have S5 := S4.set 3 (.slice va vn vc)
  have V5 := V4.set hgB 3 (.slice va vn vc)
  generalize W3.heap.size = B at *
  have hBw : w.heap.size ≤ B := by have := S3.ge; omega
  clear hn S3 T4 G4 S4 V4
  go_upto_region 4 with fail
  clear d3 f3
  generalize w4.setCell ⟨g, 3, none⟩ (.slice va vn vc) = W5 at *
  have hn : Calls Try.prog 55 #[.pointer (some ⟨b, 0, none⟩), .int .i64 8] W5 (NumPost 8 W5 b s a4 c4) := tnum S5.tk 8 (by decide) (by decide) (by omega) hs
  go_wp2_with fail
  refine hn.mono ?_
  rintro e w6 ⟨ls, c6, rfl, hls, T6, G6, R6⟩
  have S6 := S5.go T6 G6
  have hbB : b < B := by have := S5.lt; omega
  have V6 := V5.grown G6 hbB
  have d4 := S6.row.at_ 4 _ rfl
  have f4 := S6.row.free 4
  have S7 := S6.set 4 (.int .u64 (ls : Int))
  have V7 := V6.set hgB 4 (.int .u64 (ls : Int))
  clear hn S5 T6 G6 S6 V5 V6
  go_upto_region 5 with fail
  clear d4 f4
  generalize w6.setCell ⟨g, 4, none⟩ (.int .u64 (ls : Int)) = W7 at *
  have hn := tprocess S7.tk (by omega) hs
  go_wp2_with fail
  refine hn.mono ?_
  rintro e w8 ⟨lf, c8, rfl, hlf, T8, G8, R8⟩
  have S8 := S7.go T8 G8
  have V8 := V7.grown G8 hbB
  have d5 := S8.row.at_ 5 _ rfl
  have f5 := S8.row.free 5
  have S9 := S8.set 5 (.int .i64 (lf : Int))
  have V9 := V8.set hgB 5 (.int .i64 (lf : Int))
  clear hn S7 T8 G8 S8 V7 V8
  go_upto_region 6 with fail
  clear d5 f5
  generalize w8.setCell ⟨g, 5, none⟩ (.int .i64 (lf : Int)) = W9 at *
  have OR : Own W9 g 50 (encX ⟨(p : Int), ⟨ce, (cr : Int)⟩, l, ls, (lf : Int)⟩ ⟨va, vn, vc⟩).toArray := S9.row
  have HT : Hid (TR getX s a c (a4 + 8 + 1) c8 ⟨(p : Int), ⟨ce, (cr : Int)⟩, l, ls, (lf : Int)⟩) := Lib.hid (R1.and (R2.and (R4.and (R6.and (R8.and (TR.pure _ (fun h => R8.in_ h)))))))
  have HK : Hid (Tk (W9.setRow w.heap.size (encX ⟨(p : Int), ⟨ce, (cr : Int)⟩, l, ls, (lf : Int)⟩ ⟨va, vn, vc⟩).toArray) b s (a4 + 8 + 1) c8) := Lib.hid (S9.tk.own.row_other _ (by omega))
  have HV := Lib.hid ((V9.row (g := w.heap.size) (by have := S9.ge; omega) (encX ⟨(p : Int), ⟨ce, (cr : Int)⟩, l, ls, (lf : Int)⟩ ⟨va, vn, vc⟩).toArray).mono hBw)
  have HG := Lib.hid (grown_row S9.gr (Nat.le_refl _) (encX ⟨(p : Int), ⟨ce, (cr : Int)⟩, l, ls, (lf : Int)⟩ ⟨va, vn, vc⟩).toArray)
  have HR : Hid (Own (W9.setRow w.heap.size (encX ⟨(p : Int), ⟨ce, (cr : Int)⟩, l, ls, (lf : Int)⟩ ⟨va, vn, vc⟩).toArray) w.heap.size 50 (encX ⟨(p : Int), ⟨ce, (cr : Int)⟩, l, ls, (lf : Int)⟩ ⟨va, vn, vc⟩).toArray) := Lib.hid (S9.res.row _)
  have ORes := S9.res
  clear S9 V9 R1 R2 R4 R6 R8
  generalize hX : (⟨(p : Int), ⟨ce, (cr : Int)⟩, l, ls, (lf : Int)⟩ : PX) = X at *
  have hcnt : X.cnt = l := by rw [← hX]
  go_wp2_with (first | (refine load_ex rfl (.tmp 3) rfl g rfl OR ?_) | (refine store_ex rfl (.tmp 2) (.tmp 21) rfl w.heap.size rfl rfl ORes ?_))
  (try simp only [Exit.inBlock, Exit.then])
  exact bodyPost_ret (results_cell_row rfl _ _ w.heap.size 50 (encX X ⟨va, vn, vc⟩).toArray (0, 0) _ rfl HR.out Try.underlying50 rfl ex_size) rfl ⟨X, ⟨va, vn, vc⟩, a4 + 8 + 1, c8, rfl, by rw [hcnt]; exact HV.out, by omega, HK.out, HG.out, HT.out⟩
end Go.Proofs.Ytibngfpjdookkaa

/- The document's reader: a message. -/
set_option linter.unusedVariables false
set_option linter.unusedSimpArgs false
namespace Go.Proofs.Ytibngfpjdookkaa
open Go.RowKit Go.Sort

def encMg (m : PM) (T : ByteArray) (v : Vc) : List Value := [.int .i64 m.f, .int .u32 (m.q : Int), .int .u64 (m.s : Int), .int .i64 m.v, .slice v.a v.n v.c, .string T]
def zeroMs : Array Value := #[.int .i64 0, .int .u32 0, .int .u64 0, .int .i64 0, .slice none 0 0, .string { data := #[] }]
theorem ms_size : (Try.prog.info? 32).map (·.size) = some 6 := by kernel_rfl
theorem encMg_all (m : PM) (T : ByteArray) (v : Vc) : (encMg m T v).toArray.all (·.oneCell') = true := by simp [encMg, Value.oneCell']
theorem load_ms {ops : Array Oper} {rest : List Oper} {o : Oper} {A : Act} {w : World} {Q : Exit → Act → World → Prop} (hgd : o.guard = none) (y : Operand) (ho : o.op = .load 32 y)
    (g : Nat) (hx : A.eval y = .pointer (some ⟨g, 0, none⟩)) {m : PM} {T : ByteArray} {v : Vc} (hg : Own w g 32 (encMg m T v).toArray)
    (h : wpList Try.prog ops Q rest (A.put o.dst (.agg (encMg m T v).toArray)) w) : wpList Try.prog ops Q (o :: rest) A w :=
  wpList_load_row hgd 32 y ho g hx 32 _ _ _ hg Try.underlying32 rfl ms_size h
theorem store_ms {ops : Array Oper} {rest : List Oper} {o : Oper} {A : Act} {w : World} {Q : Exit → Act → World → Prop} (hgd : o.guard = none) (y z : Operand) (ho : o.op = .store 32 y z)
    (g : Nat) {m : PM} {T : ByteArray} {v : Vc} (hx : A.eval y = .pointer (some ⟨g, 0, none⟩)) (hy : A.eval z = .agg (encMg m T v).toArray)
    (hg : Own w g 32 zeroMs)
    (h : wpList Try.prog ops Q rest (A.put o.dst undef) (w.setRow g (encMg m T v).toArray)) : wpList Try.prog ops Q (o :: rest) A w :=
  wpList_store_row hgd 32 y z ho g _ hx hy 32 _ hg ms_size rfl (encMg_all _ _ _) h

/-- The text's bytes, the place behind them, and whether there are so many. -/
theorem ttext (w : World) (s : ByteArray) (a n : Nat) (hs : s.size ≤ 1099511627776) (hn : n < 65536) : ∃ (T : ByteArray) (tz : Nat) (ok : Bool),
    (∀ q : Nat, Calls Try.prog 79 #[.string s, .int .i64 ((min a s.size : Nat) : Int), .int .i64 (n : Int)] (w.drewN q) fun e w'' => e = .returned (.tuple #[.string T, .int .i64 (tz : Int), .bool ok]) ∧ ∃ m, w'' = w.drewN m) ∧
    tz ≤ a + 65536 ∧ (∀ c, (c = 0 → a ≤ s.size) → TR (getT n) s a c tz (badC c 2 (!ok)) T.data.toList) := by
  have hp : pos (n : Int) = n := by unfold pos; split <;> omega
  by_cases hm : min a s.size + n ≤ s.size
  · refine ⟨s.extract (min a s.size) (min a s.size + n), min a s.size + n, true, fun q => (refText_yes s (min a s.size) n (n : Int) _ hs hp hm).mono fun _ _ ⟨h, e⟩ => ⟨h, q, e.symm⟩, by omega, fun c hc => ?_⟩
    show TR (getT n) s a c _ c _
    by_cases h0 : c = 0
    · have ha := hc h0
      have hmin : min a s.size = a := Nat.min_eq_left ha
      rw [hmin] at hm ⊢
      refine .inr (.inl ⟨h0, h0, ?_, hm⟩)
      rw [cut_data s a n hm]
      exact getT_at hm
    · exact .inl ⟨h0, rfl⟩
  · refine ⟨⟨#[]⟩, min a s.size, false, fun q => (refText_no s (min a s.size) (n : Int) _ hs (by omega) (by rw [hp]; omega)).mono fun _ _ ⟨h, e⟩ => ⟨h, q, e.symm⟩, by omega, fun c hc => ?_⟩
    show TR (getT n) s a c _ (badC c 2 true) _
    unfold badC
    rw [if_pos rfl]
    by_cases h0 : c = 0
    · have ha := hc h0
      rw [if_pos h0]
      refine .inr (.inr ⟨h0, by decide, ?_⟩)
      exact getT_short (by omega)
    · rw [if_neg h0]
      exact .inl ⟨h0, rfl⟩

def MsgPost (f : Int) (w : World) (b : Nat) (s : ByteArray) (a c : Nat) (e : Ending) (w' : World) : Prop :=
  ∃ (m : PM) (T : ByteArray) (v : Vc) (a' c' : Nat), e = .returned (.agg (encMg m T v).toArray) ∧ T.data.toList = m.text ∧ OwnVec w.heap.size w' v m.deps ∧ a' ≤ a + 100000 ∧ Tk w' b s a' c' ∧ w.grownBy w' (some b) ∧ TR (getM f) s a c a' c' m
set_option maxHeartbeats 500000 in
set_option maxRecDepth 100000 in
theorem tmessage {w : World} {b : Nat} {s : ByteArray} {a c : Nat} (f : Int) (h : Tk w b s a c) (ha : a ≤ 1125899906842624) (hs : s.size ≤ 1099511627776) :
    Calls Try.prog 54 #[.pointer (some ⟨b, 0, none⟩), .int .i64 f] w (MsgPost f w b s a c) := by
  have hlt := h.lt
  have S0 : MidSt w ((w.alloc (.cells zeroMs 32)).alloc (.cells #[.int .i64 f, .int .u32 0, .int .u64 0, .int .i64 0, .slice none 0 0, .string { data := #[] }] 32)) b s a c 32 zeroMs (w.heap.size + 1) #[.int .i64 f, .int .u32 0, .int .u64 0, .int .i64 0, .slice none 0 0, .string { data := #[] }] := by
    have o := Own.new (w.alloc (.cells zeroMs 32)) 32 #[.int .i64 f, .int .u32 0, .int .u64 0, .int .i64 0, .slice none 0 0, .string { data := #[] }]
    rw [show (w.alloc (.cells zeroMs 32)).heap.size = w.heap.size + 1 by simp] at o
    exact ⟨(h.later ((Grw.refl w).alloc _).below).later ((Grw.refl _).alloc _).below, (Own.new w _ _).below ((Grw.refl _).alloc _).below (by simp), o, grown_tr (grown_alloc _ _ _) (grown_alloc _ _ _), hlt, by omega⟩
  unfold zeroMs at S0
  clear h
  go_enter Try.func54, Try.ntmps54
  go_upto_region 2 with fail
  generalize (w.alloc (.cells #[.int .i64 0, .int .u32 0, .int .u64 0, .int .i64 0, .slice none 0 0, .string { data := #[] }] 32)).alloc (.cells #[.int .i64 f, .int .u32 0, .int .u64 0, .int .i64 0, .slice none 0 0, .string { data := #[] }] 32) = W1 at *
  obtain ⟨g, hg⟩ : ∃ g, w.heap.size + 1 = g := ⟨_, rfl⟩
  rw [hg] at S0 ⊢
  have hn : Calls Try.prog 55 #[.pointer (some ⟨b, 0, none⟩), .int .i64 4] W1 (NumPost 4 W1 b s a c) := tnum S0.tk 4 (by decide) (by decide) (by omega) hs
  go_wp2_with fail
  refine hn.mono ?_
  rintro e w2 ⟨q, c2, rfl, hq, T2, G2, R2⟩
  replace hq : q < 4294967296 := hq
  have hwq : IntKind.u32.wrap (q : Int) = (q : Int) := by rw [IntKind.wrap_u32]; omega
  have S2 := S0.go T2 G2
  have d1 := S2.row.at_ 1 _ rfl
  have f1 := S2.row.free 1
  have S3 := S2.set 1 (.int .u32 (q : Int))
  clear hn S0 T2 G2 S2
  go_upto_region 3 with fail
  clear d1 f1 hwq
  generalize w2.setCell ⟨g, 1, none⟩ (.int .u32 (q : Int)) = W3 at *
  have hn : Calls Try.prog 55 #[.pointer (some ⟨b, 0, none⟩), .int .i64 8] W3 (NumPost 8 W3 b s (a + 4) c2) := tnum S3.tk 8 (by decide) (by decide) (by omega) hs
  go_wp2_with fail
  refine hn.mono ?_
  rintro e w4 ⟨st, c4, rfl, hst, T4, G4, R4⟩
  clear hst
  have S4 := S3.go T4 G4
  have d2 := S4.row.at_ 2 _ rfl
  have f2 := S4.row.free 2
  have S5 := S4.set 2 (.int .u64 (st : Int))
  clear hn S3 T4 G4 S4
  go_upto_region 4 with fail
  clear d2 f2
  generalize w4.setCell ⟨g, 2, none⟩ (.int .u64 (st : Int)) = W5 at *
  have hn : Calls Try.prog 55 #[.pointer (some ⟨b, 0, none⟩), .int .i64 1] W5 (NumPost 1 W5 b s (a + 4 + 8) c4) := tnum S5.tk 1 (by decide) (by decide) (by omega) hs
  go_wp2_with fail
  refine hn.mono ?_
  rintro e w6 ⟨sv, c6, rfl, hsv, T6, G6, R6⟩
  replace hsv : sv < 256 := hsv
  have hwv : IntKind.i64.wrap (sv : Int) = (sv : Int) := by rw [IntKind.wrap_i64]; omega
  have S6 := S5.go T6 G6
  have d3 := S6.row.at_ 3 _ rfl
  have f3 := S6.row.free 3
  have S7 := S6.set 3 (.int .i64 (sv : Int))
  clear hn S5 T6 G6 S6
  go_upto_region 5 with fail
  clear d3 f3 hwv
  generalize w6.setCell ⟨g, 3, none⟩ (.int .i64 (sv : Int)) = W7 at *
  have d3 : W7.cell? ⟨g, 3, none⟩ = some (.int .i64 (sv : Int)) := S7.row.at_ 3 _ rfl
  have hd : decide ((2 : Int) < (sv : Int)) = decide (2 < sv) := by apply decide_eq_decide.2; omega
  have hb : Calls Try.prog 27 #[.pointer (some ⟨b, 0, none⟩), .int .i64 1, .bool (decide (2 < sv))] W7 fun e' w' => e' = .returned (.tuple #[]) ∧ Tk w' b s (a + 4 + 8 + 1) (badC c6 1 (decide (2 < sv))) ∧ W7.grownBy w' (some b) := tbad S7.tk 1 (decide (2 < sv)) (by decide)
  have HX : Hid (∀ (n : Nat) (ds : List Nat) (tl : List UInt8) (aV cV a' c' : Nat), TR getV s (a + 4 + 8 + 1) (badC c6 1 (decide (2 < sv))) aV cV ds → TR (fun r => andG (getN 2 r) fun n r => badG 3 (1024 < n) (andG (getT n r) fun t r => .ok ((⟨f, q, st, (sv : Int), ds, t⟩ : PM), r))) s aV cV a' c' (⟨f, q, st, (sv : Int), ds, tl⟩ : PM) → TR (getM f) s a c a' c' ⟨f, q, st, (sv : Int), ds, tl⟩) :=
    Lib.hid (fun n ds tl aV cV a' c' h1 h2 => R2.and (R4.and (R6.and (TR.bad (by decide) (h1.and h2)))))
  clear R2 R4 R6
  generalize badC c6 1 (decide (2 < sv)) = c7 at *
  generalize decide (2 < sv) = z7 at *
  go_wp2_with fail
  refine hb.mono ?_
  rintro e w8 ⟨rfl, T8, G8⟩
  have S8 := S7.go T8 G8
  clear hb S7 T8 G8 d3 hd
  have hn := tvector S8.tk (by omega) hs
  go_wp2_with fail
  refine hn.mono ?_
  rintro e w9 ⟨l, ⟨va, vn, vc⟩, a9, c9, rfl, V9, hle, T9, G9, R9⟩
  have S9 := S8.go T9 G9
  have hgB := S8.sz
  have hbB : b < w8.heap.size := by have := S8.tk.lt; omega
  have hBw : w.heap.size ≤ w8.heap.size := by have := S8.ge; omega
  have d4 := S9.row.at_ 4 _ rfl
  have f4 := S9.row.free 4
  have S10 := S9.set 4 (.slice va vn vc)
  have V10 := V9.set hgB 4 (.slice va vn vc)
  generalize w8.heap.size = B at *
  clear hn S8 T9 G9 S9 V9
  go_upto_region 7 with fail
  clear d4 f4
  generalize w9.setCell ⟨g, 4, none⟩ (.slice va vn vc) = W10 at *
  have hn : Calls Try.prog 55 #[.pointer (some ⟨b, 0, none⟩), .int .i64 2] W10 (NumPost 2 W10 b s a9 c9) := tnum S10.tk 2 (by decide) (by decide) (by omega) hs
  go_wp2_with fail
  refine hn.mono ?_
  rintro e w11 ⟨tn, c11, rfl, htn, T11, G11, R11⟩
  replace htn : tn < 65536 := htn
  have hwn : IntKind.i64.wrap (tn : Int) = (tn : Int) := by rw [IntKind.wrap_i64]; omega
  have S11 := S10.go T11 G11
  have V11 := V10.grown G11 hbB
  clear hn S10 T11 G11 V10
  have hd : decide ((1024 : Int) < (tn : Int)) = decide (1024 < tn) := by apply decide_eq_decide.2; omega
  have hb : Calls Try.prog 27 #[.pointer (some ⟨b, 0, none⟩), .int .i64 3, .bool (decide (1024 < tn))] w11 fun e' w' => e' = .returned (.tuple #[]) ∧ Tk w' b s (a9 + 2) (badC c11 3 (decide (1024 < tn))) ∧ w11.grownBy w' (some b) := tbad S11.tk 3 (decide (1024 < tn)) (by decide)
  have HY : Hid (∀ (tl : List UInt8) (a' c' : Nat), TR (getT tn) s (a9 + 2) (badC c11 3 (decide (1024 < tn))) a' c' tl → TR (getM f) s a c a' c' ⟨f, q, st, (sv : Int), l, tl⟩) :=
    Lib.hid (fun tl a' c' h1 => HX.out 0 l tl a9 c9 a' c' R9 (R11.and (TR.bad (by decide) (h1.and (TR.pure _ (fun h => h1.in_ h))))))
  have HI : Hid (badC c11 3 (decide (1024 < tn)) = 0 → a9 + 2 ≤ s.size) := Lib.hid (fun h => R11.in_bad (by decide) h)
  clear HX R9 R11
  generalize badC c11 3 (decide (1024 < tn)) = c12 at *
  generalize decide (1024 < tn) = z12 at *
  go_wp2_with fail
  refine hb.mono ?_
  rintro e w12 ⟨rfl, T12, G12⟩
  have S12 := S11.go T12 G12
  have V12 := V11.grown G12 hbB
  clear hb S11 T12 G12 V11 hd hwn
  obtain ⟨T, tz, ok, hT, hto, hR⟩ := ttext w12 s (a9 + 2) tn hs htn
  have HR : Hid (TR (getM f) s a c tz (badC c12 2 (!ok)) ⟨f, q, st, (sv : Int), l, T.data.toList⟩) := Lib.hid (HY.out _ _ _ (hR c12 HI.out))
  have k0 := S12.tk.c0
  have k1 := S12.tk.c1
  have hmin : min ((a9 + 2 : Nat) : Int) (s.size : Int) = ((min (a9 + 2) s.size : Nat) : Int) := by omega
  obtain ⟨p, hp⟩ : ∃ p, a9 + 2 = p := ⟨_, rfl⟩
  rw [hp] at k1 hmin hT S12
  clear hR HY HI
  obtain ⟨pm, hpm⟩ : ∃ pm : Nat, min p s.size = pm := ⟨_, rfl⟩
  rw [hpm] at hT hmin
  have hif : (if s.size < p then (s.size : Int) else (p : Int)) = (pm : Int) := by split <;> omega
  clear hmin
  replace hp := Lib.hid hp
  replace hpm := Lib.hid hpm
  go_upto_region 9 with fail
  go_quiet ((go_at_call 79; exact hT _))
  clear k0 k1 hT hif
  have S13 := S12.below ((Grw.refl w12).drewN nq).below
  have V13 := V12.below ((Grw.refl w12).drewN nq).below
  clear S12 V12
  generalize w12.drewN nq = W13 at *
  have hb : Calls Try.prog 27 #[.pointer (some ⟨b, 0, none⟩), .int .i64 2, .bool (!ok)] W13 fun e' w' => e' = .returned (.tuple #[]) ∧ Tk w' b s p (badC c12 2 (!ok)) ∧ W13.grownBy w' (some b) := tbad S13.tk 2 (!ok) (by decide)
  generalize badC c12 2 (!ok) = c13 at *
  go_wp2_with fail
  refine hb.mono ?_
  rintro e w14 ⟨rfl, T14, G14⟩
  have V14 := V13.grown G14 hbB
  have S14 := S13.go T14 G14
  have k1 := T14.c1
  have j1 := T14.free 1
  have S15 := S14.go (T14.set1 tz) (tgrown_set w14 b 1 (.int .i64 (tz : Int)))
  have V15 := V14.grown (tgrown_set w14 b 1 (.int .i64 (tz : Int))) hbB
  clear hb S13 V13 T14 G14 S14 V14
  go_upto_region 12 with fail
  clear k1 j1
  generalize w14.setCell ⟨b, 1, none⟩ (.int .i64 (tz : Int)) = W15 at *
  have d5 := S15.row.at_ 5 _ rfl
  have f5 := S15.row.free 5
  have S16 := S15.set 5 (.string T)
  have V16 := V15.set hgB 5 (.string T)
  clear S15 V15
  go_upto_region 13 with fail
  clear d5 f5
  generalize W15.setCell ⟨g, 5, none⟩ (.string T) = W16 at *
  have OR : Own W16 g 32 (encMg ⟨f, q, st, (sv : Int), l, T.data.toList⟩ T ⟨va, vn, vc⟩).toArray := S16.row
  generalize hM : (⟨f, q, st, (sv : Int), l, T.data.toList⟩ : PM) = M at *
  have HK : Hid (Tk (W16.setRow w.heap.size (encMg M T ⟨va, vn, vc⟩).toArray) b s tz c13) := Lib.hid (S16.tk.own.row_other _ (by omega))
  have HV := Lib.hid ((V16.row (g := w.heap.size) (by have := S16.ge; omega) (encMg M T ⟨va, vn, vc⟩).toArray).mono hBw)
  have HG := Lib.hid (grown_row S16.gr (Nat.le_refl _) (encMg M T ⟨va, vn, vc⟩).toArray)
  have HRes : Hid (Own (W16.setRow w.heap.size (encMg M T ⟨va, vn, vc⟩).toArray) w.heap.size 32 (encMg M T ⟨va, vn, vc⟩).toArray) := Lib.hid (S16.res.row _)
  have ORes := S16.res
  clear S16 V16
  have hcnt : M.deps = l := by rw [← hM]
  have htx : T.data.toList = M.text := by rw [← hM]
  clear hM
  go_wp2_with (first | (refine load_ms rfl (.tmp 5) rfl g rfl OR ?_) | (refine store_ms rfl (.tmp 4) (.tmp 68) rfl w.heap.size rfl rfl ORes ?_))
  (try simp only [Exit.inBlock, Exit.then])
  exact bodyPost_ret (results_cell_row rfl _ _ w.heap.size 32 (encMg M T ⟨va, vn, vc⟩).toArray (0, 0) _ rfl HRes.out Try.underlying32 rfl ms_size) rfl ⟨M, T, ⟨va, vn, vc⟩, tz, c13, rfl, htx, by rw [hcnt]; exact HV.out, by have := hp.out; omega, HK.out, HG.out, HR.out⟩
end Go.Proofs.Ytibngfpjdookkaa
