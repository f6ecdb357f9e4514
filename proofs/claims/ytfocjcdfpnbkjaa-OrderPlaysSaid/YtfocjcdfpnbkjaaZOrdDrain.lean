/- Drain. -/
import Derived.Test.YtfocjcdfpnbkjaaZOrdNext
set_option linter.unusedVariables false
set_option maxRecDepth 100000
set_option linter.unusedSimpArgs false
namespace Go.Proofs.Ytfocjcdfpnbkjaa
open Go.RowKit Go.Sort Go.Shelf

theorem lst_slot {w : World} {g : Nat} {x : Mg} (h : MgB w g x) : SlotAt w ⟨some ⟨g, 0, none⟩, 1, 1⟩ [x] := by
  refine .inr ⟨g, 0, rfl, ⟨(encG x).toArray, h.own, by simp [encG], fun j u hu => ?_⟩, rfl, Nat.le_refl _, by show 1 ≤ maxLen; unfold maxLen; decide⟩
  rw [flat_cons, flat_nil, List.append_nil] at hu
  rw [Nat.zero_add, List.getElem?_toArray]
  exact hu
theorem wpList_append_rows {w : World} {ops : Array Oper} {rest : List Oper} {o : Oper} {a : Act} {Q : Exit → Act → World → Prop} (hgd : o.guard = none) (sx x : Operand)
    (ho : o.op = .call { callee := .builtin .append, args := #[sx, x], argTypes := #[29, 29] })
    (base : Nat) (v : Value) (n : Nat) (X : List Mg) (hs : a.eval sx = v) (hown : w.ownsRow base 47 6 v n (flat encG X)) (t : Sl) (Y : List Mg) (hx : a.eval x = .slice t.a t.n t.c) (ht : SlotAt w t Y) (hn : n + t.n ≤ 200000) (hbase : base ≤ w.heap.size)
    (hK : ∀ v' w', w'.ownsRow base 47 6 v' (n + t.n) (flat encG (X ++ Y)) → w.grownBy w' v.ownBlock → wpList Try.prog ops Q rest (a.put o.dst v') w') : wpList Try.prog ops Q (o :: rest) a w :=
  wpList_plain hgd fun K hK' => wp_append_rows sx x ho base v n X hs hown t Y hx ht hn hbase fun v' w' h1 h2 => hK' _ _ (hK v' w' h1 h2)
theorem own_kept {w w' : World} {base n : Nat} {v : Value} {xs : List Value} (h : w.ownsRow base 47 6 v n xs) (hb : ∀ k, some k = v.ownBlock → w'.heap[k]? = w.heap[k]?) : w'.ownsRow base 47 6 v n xs := by
  refine ⟨h.1, ?_⟩
  rcases h.2 with h1 | ⟨g, c, cur, e, h1, h3, h4⟩
  · exact .inl h1
  · exact .inr ⟨g, c, cur, e, h1, (hb g (by rw [e]; rfl)).trans h3, h4⟩
theorem own_ltD {w : World} {base n : Nat} {v : Value} {xs : List Value} (h : w.ownsRow base 47 6 v n xs) (k : Nat) (hk : some k = v.ownBlock) : k < w.heap.size := by
  obtain ⟨_, cur, hc⟩ := own_typ h k hk
  exact (Array.getElem?_eq_some_iff.1 hc).1
theorem leftK_le (O : Od) (N : Nat) (h : ∀ p, p < 64 → O.S.cnt p ≤ N) : ∀ k, k ≤ 64 → leftK O k ≤ k * N
  | 0, _ => Nat.zero_le _
  | k + 1, hk => by
    have h1 := leftK_le O N h k (by omega)
    have h2 := h k (by omega)
    unfold leftK
    rw [Nat.add_mul, Nat.one_mul]
    omega
theorem left_few {w : World} {E : Nat → Prop} {g N : Nat} {O : Od} (h : ORep w E g N O) (hN : N ≤ 1000) : leftO O ≤ 64000 := by
  obtain ⟨gh, gz, F, zs, h⟩ := h.ex
  have h1 := leftK_le O N (fun p hp => h.hold.bnd p hp) 64 (Nat.le_refl _)
  have h2 : 64 * N ≤ 64 * 1000 := Nat.mul_le_mul (Nat.le_refl _) hN
  unfold leftO
  omega
/-- Amid Drain: what is out, what is pending. -/
structure DrRow (w wr : World) (E : Nat → Prop) (g N : Nat) (O : Od) (v : Value) (n : Nat) (X pre : List Mg) (O1 : Od) : Prop where
  own : wr.ownsRow w.heap.size 47 6 v n (flat encG X)
  len : X.length = n
  deps : ∀ y ∈ X, DpT wr (fun k => w.heap.size ≤ k) y
  rep : ORep wr E g N O1
  chg : Chg (fun k => k = g) w wr
  lg : g < w.heap.size
  pend : ∀ l P, Drains O1 l P → Drains O (X.map strip ++ (pre ++ l)) P
  few : n + pre.length + leftO O1 ≤ leftO O
section
variable {w wr : World} {E : Nat → Prop} {g N : Nat} {O O1 : Od} {v : Value} {n : Nat} {X pre : List Mg}
theorem DrRow.below {w' : World} (h : DrRow w wr E g N O v n X pre O1) (hb : Below wr.heap.size wr w') : DrRow w w' E g N O v n X pre O1 :=
  ⟨own_later h.own hb, h.len, fun y hy => (h.deps y hy).below hb, h.rep.below hb, h.chg.then hb, h.lg, h.pend, h.few⟩
theorem DrRow.row {mb : Nat} {x : Mg} (h : DrRow w wr E g N O v n X pre O1) (hm : MgB wr mb x) (hB : w.heap.size ≤ mb) (hn : some mb ≠ v.ownBlock) (hE : ¬ E mb) (y : Mg) : DrRow w (wr.setRow mb (encG y).toArray) E g N O v n X pre O1 := by
  have hs : (wr.setRow mb (encG y).toArray).heap.size = wr.heap.size := size_setRow _ _ _
  refine ⟨own_kept h.own fun k hk => setRow_other _ _ _ _ (fun e => hn (by rw [← e]; exact hk)), h.len, fun z hz => (h.deps z hz).kept fun ad e => setRow_other _ _ _ _ ((h.deps z hz).ne ad e hm.own), h.rep.kept (Nat.le_of_eq hs.symm) fun k hk => setRow_other _ _ _ _ (fun e => hE (e ▸ hk)), ?_, h.lg, h.pend, h.few⟩
  exact ⟨h.chg.os, h.chg.tape, h.chg.output, by rw [hs]; exact h.chg.size, fun k hk hkg => (setRow_other _ _ _ _ (by omega)).trans (h.chg.block k hk hkg)⟩
theorem DrRow.app {w' : World} {v' : Value} {x : Mg} (h : DrRow w wr E g N O v n X [strip x] O1) (hx : DpT wr (fun k => w.heap.size ≤ k) x) (hE : ∀ k, E k → k < w.heap.size) (ho : w'.ownsRow w.heap.size 47 6 v' (n + 1) (flat encG (X ++ [x]))) (hg : wr.grownBy w' v.ownBlock) : DrRow w w' E g N O v' (n + 1) (X ++ [x]) [] O1 := by
  have kb : ∀ y, DpT wr (fun k => w.heap.size ≤ k) y → DpT w' (fun k => w.heap.size ≤ k) y := fun y hy => hy.kept fun ad e => hg.block _ (hy.lt ad e) fun e2 => by
    obtain ⟨_, cur, hc⟩ := own_typ h.own _ e2
    exact hy.ne ad e hc rfl
  have hv : ∀ k, some k = v.ownBlock → w.heap.size ≤ k := fun k hk => (own_typ h.own k hk).1
  refine ⟨ho, by rw [List.length_append, h.len]; rfl, fun y hy => ?_, h.rep.kept hg.size fun k hk => hg.block k (h.rep.lim k hk) (fun e => by have := hv k e; have := hE k hk; omega), ?_, h.lg, fun l P k => ?_, ?_⟩
  · rcases List.mem_append.1 hy with hy | hy
    · exact kb y (h.deps y hy)
    · rw [List.mem_singleton.1 hy]; exact kb x hx
  · exact ⟨hg.os.trans h.chg.os, hg.tape.trans h.chg.tape, hg.output.trans h.chg.output, Nat.le_trans h.chg.size hg.size, fun k hk hn => (hg.block k (Nat.lt_of_lt_of_le hk h.chg.size) (fun e => by have := hv k e; omega)).trans (h.chg.block k hk hn)⟩
  · have := h.pend l P k
    rw [List.map_append, List.append_assoc]
    exact this
  · have := h.few
    simp only [List.length_singleton, List.length_nil] at this ⊢
    omega
theorem DrRow.no {w' : World} (h : DrRow w wr E g N O v n X [] O1) (hr : ORep w' E g N O1) (hb : Below wr.heap.size wr w') : DrRow w w' E g N O v n X [] O1 := h.below hb
theorem DrRow.yes {w' : World} {m : Mg} {O2 : Od} (h : DrRow w wr E g N O v n X [] O1) (hn : nextO O1 = some (m, O2)) (hr : ORep w' E g N O2) (hc : Chg (fun k => k = g) wr w') : DrRow w w' E g N O v n X [m] O2 := by
  have hlg := h.lg
  refine ⟨own_kept h.own fun k hk => hc.block k (own_ltD h.own k hk) (fun e => by have := (own_typ h.own k hk).1; omega), h.len, fun y hy => (h.deps y hy).kept fun ad e => hc.block _ ((h.deps y hy).lt ad e) (fun e2 => by have := ((h.deps y hy).typ ad e).1; omega), hr, h.chg.trans hc, hlg, fun l P k => ?_, ?_⟩
  · exact h.pend (m :: l) P (.more hn k)
  · have h1 := h.few
    have h2 := next_left h.rep.ok hn
    simp only [List.length_singleton, List.length_nil] at h1 ⊢
    omega
theorem DrRow.start (h : ORep w E g N O) : DrRow w w E g N O (.slice none 0 0) 0 [] [] O :=
  ⟨World.ownsRow_nil w _ _ _, rfl, (fun y hy => by cases hy), h, Chg.refl _ _, h.lim g h.eg, fun l P k => k, by simp⟩
/-- What is pending, in its block. -/
structure PendAt (w wr : World) (E : Nat → Prop) (v : Value) (ok : Bool) (mb : Nat) (x : Mg) (pre : List Mg) (O1 : Od) : Prop where
  own : MgB wr mb x
  base : w.heap.size ≤ mb
  ne : some mb ≠ v.ownBlock
  yes : ok = true → pre = [strip x] ∧ DpT wr (fun k => w.heap.size ≤ k) x
  no : ok = false → pre = [] ∧ nextO O1 = none
  nE : ¬ E mb
theorem next_both {e : Ending} {w' : World} (h : DrRow w wr E g N O v n X [] O1) (hs : NextSaid wr E g N O1 (nextO O1) e w') :
    ∃ x ok pre O2, e = .returned (.tuple #[valG x, .bool ok]) ∧ (2 * leftO O2 + (if ok = true then 1 else 0) < 2 * leftO O1 + 1) ∧ DrRow w w' E g N O v n X pre O2 ∧ (ok = true → pre = [strip x] ∧ DpT w' (fun k => w.heap.size ≤ k) x) ∧ (ok = false → pre = [] ∧ nextO O2 = none) ∧ Chg (fun k => k = g) wr w' := by
  generalize hn : nextO O1 = r at hs
  cases hs with
  | no w' hr hB => exact ⟨zeroG, false, [], O1, rfl, by simp, h.below hB, (fun e => by cases e), fun _ => ⟨rfl, hn⟩, Chg.of_below hB⟩
  | yes m x O' w' h1 h2 hr hc => exact ⟨x, true, [m], O', rfl, by have := next_left h.rep.ok hn; simp only [if_true]; omega, h.yes hn hr hc, fun _ => ⟨by rw [h1], h2.more fun k _ hk => Nat.le_trans h.chg.size hk⟩, (fun e => by cases e), hc⟩
/-- What Drain answers. -/
def DrainSaid (w : World) (E : Nat → Prop) (g N : Nat) (O : Od) (e : Ending) (w' : World) : Prop :=
  ∃ a n c X P, e = .returned (.slice a n c) ∧ w'.ownsRow w.heap.size 47 6 (.slice a n c) n (flat encG X) ∧ X.length = n ∧ (∀ y ∈ X, DpT w' (fun k => w.heap.size ≤ k) y) ∧ Drains O (X.map strip) P ∧ ORep w' E g N P ∧ Chg (fun k => k = g) w w' ∧ n ≤ leftO O
end
section
variable {w : World} {E : Nat → Prop} {g N : Nat} {O : Od}
set_option maxHeartbeats 8000000 in
theorem odrain (h : ORep w E g N O) (hN : N ≤ 1000) :
    Calls Try.prog 36 #[.pointer (some ⟨g, 0, none⟩)] w (DrainSaid w E g N O) := by
  have KN := onext h hN
  have HE := Lib.hid h.lim
  have HL := Lib.hid (left_few h hN)
  have H0 := Lib.hid h
  have HR := Lib.hid (DrRow.start h)
  clear h
  go_enter Try.func36, Try.ntmps36
  go_wp2_with fail
  refine KN.mono ?_
  rintro e w1 hs
  obtain ⟨x, ok, pre, O1, rfl, -, R1, hy, hn, hC⟩ := next_both HR.out hs
  have HP := Lib.hid (And.intro R1 (And.intro hy hn))
  have M1 : MgB (w1.alloc (.cells #[.int .i64 0, .int .u32 0, .int .u64 0, .int .i64 0, .slice none 0 0, .string { data := #[] }] 47)) w1.heap.size zeroG := MgB.new w1 zeroG
  have L1 := Lib.hid ((Grw.refl w1).alloc (.cells #[.int .i64 0, .int .u32 0, .int .u64 0, .int .i64 0, .slice none 0 0, .string { data := #[] }] 47)).below
  clear KN hs R1 hy hn hC
  go_upto_region 3 with (first | (refine store_mg rfl (.tmp 4) (.tmp 9) rfl w1.heap.size x rfl rfl M1 ?_) | fail)
  have hw1 : w.heap.size ≤ w1.heap.size := HP.out.1.chg.size
  have hne : some w1.heap.size ≠ (Value.slice none 0 0).ownBlock := by simp [Value.ownBlock]
  have hnE : ¬ E w1.heap.size := fun e => by have := HE.out _ e; omega
  have R2 := (HP.out.1.below L1.out).row M1 hw1 hne hnE x
  have Q2 : PendAt w ((w1.alloc (.cells #[.int .i64 0, .int .u32 0, .int .u64 0, .int .i64 0, .slice none 0 0, .string { data := #[] }] 47)).setRow w1.heap.size (encG x).toArray) E (.slice none 0 0) ok w1.heap.size x pre O1 :=
    ⟨M1.row x, hw1, hne, fun e => ⟨(HP.out.2.1 e).1, ((HP.out.2.1 e).2.below L1.out).kept fun ad e2 => setRow_other _ _ _ _ (((HP.out.2.1 e).2.below L1.out).ne ad e2 M1.own)⟩, HP.out.2.2, hnE⟩
  have HS := Lib.hid (And.intro R2 Q2)
  have hfw : leftO O1 ≤ leftO O := by have := HP.out.1.few; omega
  clear M1 L1 HP hne hnE R2 Q2
  generalize (w1.alloc (.cells #[.int .i64 0, .int .u32 0, .int .u64 0, .int .i64 0, .slice none 0 0, .string { data := #[] }] 47)).setRow w1.heap.size (encG x).toArray = w2 at *
  generalize w1.heap.size = mb at *
  go_loopg [3, 4, 5] (2 * leftO O + 1) (fun kx so sm sk wr => ∃ (a : Option Addr) (n c : Nat) (X pre : List Mg) (O1 : Od) (mb : Nat) (x : Mg) (ok : Bool), so = .slice a n c ∧ sm = .pointer (some ⟨mb, 0, none⟩) ∧ sk = .bool ok ∧ 2 * leftO O1 + (if ok = true then 1 else 0) ≤ kx ∧ Hid (DrRow w wr E g N O (.slice a n c) n X pre O1 ∧ PendAt w wr E (.slice a n c) ok mb x pre O1))
  case atStart => exact ⟨none, 0, 0, [], pre, O1, mb, x, ok, rfl, rfl, rfl, by split <;> omega, HS⟩
  case round =>
    clear HS
    obtain ⟨a, n, c, X, pre, O1, mb, x, ok, rfl, rfl, rfl, hkx, HS⟩ := hrel
    cases ok with
    | false =>
      have hF := HS.out.2.no rfl
      have hfew : n ≤ leftO O := by have := HS.out.1.few; omega
      have HFW := Lib.hid hfew
      clear hfew
      go_wp2
      go_ret
      have hR := HS.out.1
      rw [hF.1] at hR
      refine ⟨a, n, c, X, O1, rfl, hR.own, hR.len, hR.deps, ?_, hR.rep, hR.chg, HFW.out⟩
      have := hR.pend [] O1 (.stop hF.2)
      simpa using this
    | true =>
      obtain ⟨hpre, hdx⟩ := HS.out.2.yes rfl
      subst hpre
      have hR := HS.out.1
      have hP := HS.out.2
      have hn2 : n + 1 ≤ 200000 := by
        have h1 := hR.few
        have h2 := HL.out
        simp only [List.length_singleton] at h1
        omega
      have HN2 := Lib.hid hn2
      rw [if_pos rfl] at hkx
      have hO1 : leftO O1 ≤ leftO O := by have := hR.few; omega
      have HKX := Lib.hid (And.intro hkx hO1)
      obtain ⟨f, q, s, u, da, dl, dc, deps, text⟩ := x
      have M3 := Lib.hid hP.own
      have L4 := ((Grw.refl wr).alloc (.cells #[.int .i64 f, .int .u32 q, .int .u64 s, .int .i64 u, .slice da dl dc, .string text] 47)).below
      have S4 := Lib.hid (lst_slot (MgB.new wr ⟨f, q, s, u, da, dl, dc, deps, text⟩))
      have HR4 := Lib.hid (hR.below L4)
      have HD4 := Lib.hid (hdx.below L4)
      have M4 := Lib.hid (hP.own.later L4)
      have HBN := Lib.hid (And.intro hP.base hP.ne)
      clear HS hn2 hkx hO1 hR hP hdx L4
      have d0 := M3.out.own.at_ 0 _ rfl
      have d1 := M3.out.own.at_ 1 _ rfl
      have d2 := M3.out.own.at_ 2 _ rfl
      have d3 := M3.out.own.at_ 3 _ rfl
      have d4 := M3.out.own.at_ 4 _ rfl
      have d5 := M3.out.own.at_ 5 _ rfl
      go_upto_region 6 with (at_builtin; refine wpList_append_rows rfl (.tmp 17) (.tmp 19) rfl w.heap.size (.slice a n c) n X rfl HR4.out.own ⟨some ⟨wr.heap.size, 0, none⟩, 1, 1⟩ [⟨f, q, s, u, da, dl, dc, deps, text⟩] rfl S4.out HN2.out HR4.out.chg.size ?_; intro v5 w5 ho5 hg5)
      obtain ⟨a', c', rfl⟩ := own_form' ho5
      have M5 : MgB w5 mb ⟨f, q, s, u, da, dl, dc, deps, text⟩ := (hg5.block mb M4.out.lt HBN.out.2).trans M4.out
      have R5 := HR4.out.app HD4.out HE.out ho5 hg5
      have e0 := M5.own.at_ 0 _ rfl
      have e1 := M5.own.at_ 1 _ rfl
      have e2 := M5.own.at_ 2 _ rfl
      have e3 := M5.own.at_ 3 _ rfl
      have e4 := M5.own.at_ 4 _ rfl
      have e5 := M5.own.at_ 5 _ rfl
      have L6 := ((Grw.refl w5).alloc (.cells #[.int .i64 f, .int .u32 q, .int .u64 s, .int .i64 u, .slice da dl dc, .string text] 47)).below
      have HR6 := Lib.hid (R5.below L6)
      have X6 := MgB.new w5 ⟨f, q, s, u, da, dl, dc, deps, text⟩
      have hmb2 : w.heap.size ≤ w5.heap.size := R5.chg.size
      have hne2 : some w5.heap.size ≠ (Value.slice a' (n + 1) c').ownBlock := fun e => by have := own_ltD ho5 _ e; omega
      clear d0 d1 d2 d3 d4 d5 ho5 hg5 M3 S4 HR4 HD4 M4 HBN M5 R5 L6
      go_upto_region 4 with fail
      clear e0 e1 e2 e3 e4 e5
      have HX6 := Lib.hid (show MgB (w5.alloc (.cells #[.int .i64 f, .int .u32 q, .int .u64 s, .int .i64 u, .slice da dl dc, .string text] 47)) w5.heap.size ⟨f, q, s, u, da, dl, dc, deps, text⟩ from X6)
      have HNE := Lib.hid hne2
      generalize w5.alloc (.cells #[.int .i64 f, .int .u32 q, .int .u64 s, .int .i64 u, .slice da dl dc, .string text] 47) = w6 at *
      generalize w5.heap.size = m2 at *
      have KN := onext HR6.out.rep hN
      clear X6 hne2
      go_wp2_with fail
      refine KN.mono ?_
      rintro e w7 hs
      obtain ⟨x2, ok2, pre2, O2, rfl, hms0, R7, hy, hn, hC⟩ := next_both HR6.out hs
      have hlg := R7.lg
      have M7 : MgB w7 m2 ⟨f, q, s, u, da, dl, dc, deps, text⟩ := (hC.block m2 HX6.out.lt (by omega)).trans HX6.out
      have hnE : ¬ E m2 := fun e => by have := HE.out _ e; omega
      have R8 := R7.row M7 hmb2 HNE.out hnE x2
      have Q8 : PendAt w (w7.setRow m2 (encG x2).toArray) E (.slice a' (n + 1) c') ok2 m2 x2 pre2 O2 :=
        ⟨M7.row x2, hmb2, HNE.out, fun e => ⟨(hy e).1, (hy e).2.kept fun ad e2 => setRow_other _ _ _ _ ((hy e).2.ne ad e2 M7.own)⟩, hn, hnE⟩
      have hms : 2 * leftO O2 + (if ok2 = true then 1 else 0) < gk := by
        have h1 := HKX.out.1
        omega
      have HS := Lib.hid (And.intro R8 Q8)
      have HMS := Lib.hid hms
      clear KN hs R7 hy hn hC R8 Q8 HR6 HX6 hms hms0
      go_wp2_with (refine store_mg rfl (.tmp 4) (.tmp 15) rfl m2 x2 rfl rfl M7 ?_)
      go_roundg (2 * leftO O2 + (if ok2 = true then 1 else 0))
      case measure => exact HMS.out
      case rel => exact ⟨a', n + 1, c', _, pre2, O2, m2, x2, ok2, rfl, rfl, rfl, Nat.le_refl _, HS⟩
end
end Go.Proofs.Ytfocjcdfpnbkjaa
