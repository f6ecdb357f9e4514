/- The program's Copy. (Written by wip/gen_scopy.py.) -/
import Derived.Test.YtcnfkjjfegjecaaSAbs
set_option linter.unusedVariables false
set_option linter.unusedSimpArgs false
namespace Go.Proofs.Ytcnfkjjfegjecaa
open Go.RowKit Go.Sort Go.Maps Go.WideShapes Go.MapKept
open Go.WideElems (Fit rd rg pl rd_key rd_val rg_of)

theorem nodup_sub_len {α : Type} : ∀ (l r : List α), l.Nodup → (∀ x ∈ l, x ∈ r) → l.length ≤ r.length
  | [], _, _, _ => Nat.zero_le _
  | x :: l, r, hn, hs => by
    classical
    rw [List.nodup_cons] at hn
    have h1 := hs x (List.mem_cons_self ..)
    have := nodup_sub_len l (r.erase x) hn.2 (fun y hy => by
      have hne : y ≠ x := fun e => hn.1 (e ▸ hy)
      exact (List.mem_erase_of_ne hne).2 (hs y (List.mem_cons_of_mem _ hy)))
    have h2 := List.length_erase_of_mem h1
    have h3 := List.length_pos_of_mem h1
    simp only [List.length_cons]
    omega
theorem has_mem {es : List (Lit × DataW Value)} {k : Lit} (h : has (.map es) k = true) : k ∈ es.map (·.1) := by
  rw [has_eq] at h
  obtain ⟨p, hp, hpk⟩ := List.any_eq_true.1 h
  rw [← WideAt.sameKey_eq hpk]
  exact List.mem_map_of_mem hp
/-- The keys of a map of messages are numbers of 32 bits. -/
theorem owns_keys {w : World} {b n : Nat} {D : DataW Value} (h : w.ownsMap Try.prog 23 rdG b n D) : ∃ es, D = .map es ∧ (es.map (·.1)).Nodup ∧ ∀ k ∈ es.map (·.1), ∃ j : Nat, j < 4294967296 ∧ k = .int .u32 (j : Int) ∧ has D k = true := by
  obtain ⟨es, clock, hb, F, hs, rfl⟩ := h
  refine ⟨_, rfl, ?_, fun k hk => ?_⟩
  · have := Maps.fit_apart key32 F
    have h2 := ((sorted_perm (es.toList.map (rg Try.prog 23 rdG))).pairwise_iff (fun {_ _} hne => Ne.symm hne)).2 this
    rw [List.Nodup, List.pairwise_map]
    exact h2
  · obtain ⟨p, hp, rfl⟩ := List.mem_map.1 hk
    obtain ⟨x, hx, rfl⟩ := List.mem_map.1 (mem_sorted.1 hp)
    obtain ⟨y, hy⟩ := F.reads x hx
    have h1 := rd_key hy
    obtain ⟨z, _, hz, hw⟩ := Maps.keyOf_int_inv Try.underlying23 h1
    have hb := Go.bounds_u32 hw
    have e1 : (rg Try.prog 23 rdG x).1 = y.1 := by rw [rg_of hy]
    refine ⟨z.toNat, by omega, by rw [e1, hz]; congr 1; omega, ?_⟩
    rw [has_eq]
    exact List.any_eq_true.2 ⟨_, hp, WideAt.sameKey_self (by rw [e1]; exact key32.key h1)⟩
theorem MapAt.sizes {w w' : World} {b b' n n' : Nat} {H H' : Nat → Option Mg} (h : MapAt w b H n) (h' : MapAt w' b' H' n') (hs : ∀ k, k < 4294967296 → H k = none → H' k = none) : n' ≤ n := by
  obtain ⟨D, ho, h1, h2, h3⟩ := h
  obtain ⟨D', ho', h1', h2', h3'⟩ := h'
  obtain ⟨es, rfl, hn, hk⟩ := owns_keys ho
  obtain ⟨es', rfl, hn', hk'⟩ := owns_keys ho'
  have := nodup_sub_len _ (es.map (·.1)) hn' (fun k hkm => by
    obtain ⟨j, hj, rfl, hh⟩ := hk' k hkm
    cases hH : H j with
    | none => rw [h2' j hj (hs j hj hH)] at hh; cases hh
    | some m => exact has_mem (has_true_of_atKey (h3 j hj m hH)))
  rw [List.length_map, List.length_map] at this
  rw [← h1, ← h1']
  exact this
/-- The map that a loop goes through. -/
structure RngAt (w : World) (b r : Nat) (H : Nat → Option Mg) (n : Nat) (left : Lit → Bool) (cnt : Nat) : Prop where
  ex : ∃ D : DataW Value, w.ranges Try.prog 23 rdG b r n D left cnt ∧ size D = n ∧
    (∀ k : Nat, k < 4294967296 → H k = none → has D (.int .u32 (k : Int)) = false) ∧ (∀ k : Nat, k < 4294967296 → ∀ m, H k = some m → ∀ z, D.atKey (.int .u32 (k : Int)) z = .held (valG m))
theorem RngAt.grown {w w' : World} {b r n cnt : Nat} {H : Nat → Option Mg} {left : Lit → Bool} {o : Option Nat} (h : RngAt w b r H n left cnt) (hg : w.grownBy w' o) (h1 : some b ≠ o) (h2 : some r ≠ o) : RngAt w' b r H n left cnt := by
  obtain ⟨D, hr, h⟩ := h
  exact ⟨D, hr.kept hg h1 h2, h⟩
theorem RngAt.below {w w' : World} {b r n cnt : Nat} {H : Nat → Option Mg} {left : Lit → Bool} (h : RngAt w b r H n left cnt) (hb : Below w.heap.size w w') : RngAt w' b r H n left cnt :=
  h.grown (o := none) ⟨hb.os, hb.tape, hb.output, hb.size, fun k hk _ => hb.block k hk⟩ (by simp) (by simp)
theorem RngAt.left_eq {w : World} {b r n cnt : Nat} {H : Nat → Option Mg} {left : Lit → Bool} (h : RngAt w b r H n left cnt) : w.rangeLeft b r = cnt := by
  obtain ⟨D, hr, _⟩ := h
  exact hr.left_eq
theorem RngAt.lt {w : World} {b r n cnt : Nat} {H : Nat → Option Mg} {left : Lit → Bool} (h : RngAt w b r H n left cnt) : b < w.heap.size ∧ r < w.heap.size := by
  obtain ⟨D, hr, _⟩ := h
  exact ⟨hr.owns.lt, hr.lt⟩
theorem RngAt.map {w : World} {b r n cnt : Nat} {H : Nat → Option Mg} {left : Lit → Bool} (h : RngAt w b r H n left cnt) : MapAt w b H n := by
  obtain ⟨D, hr, h⟩ := h
  exact ⟨D, hr.owns, h⟩
/-- 'range m'. -/
theorem range_sm {ops : Array Oper} {rest : List Oper} {o : Oper} {a : Act} {Q : Exit → Act → World → Prop} (w : World) (hg : o.guard = none) (m : Operand) (hop : o.op = Op.range 54 m) {b n : Nat} {H : Nat → Option Mg} (hm : a.eval m = .map (some b)) (h : MapAt w b H n)
    (hK : ∀ w' left, RngAt w' b w.heap.size H n left n → (∀ k : Nat, k < 4294967296 → left (.int .u32 (k : Int)) = (H k).isSome) → Below w.heap.size w w' → w'.heap.size = w.heap.size + 1 → wpList Try.prog ops Q rest (a.put o.dst (.pointer (some ⟨w.heap.size, 0, none⟩))) w') : wpList Try.prog ops Q (o :: rest) a w := by
  obtain ⟨D, ho, h1, h2, h3⟩ := h
  refine wpList_range_own w hg m 54 hop 23 37 key32 Try.underlying54 rdG b n D hm ho (fun w' r1 r2 r3 => ?_)
  refine hK w' (has D) ⟨D, by rw [h1] at r1; exact r1, h1, h2, h3⟩ (fun k hk => ?_) ⟨r2.os, r2.tape, r2.output, r2.size, fun k hk => r2.block k hk (by simp)⟩ r3
  cases hH : H k with
  | none => exact h2 k hk hH
  | some x => exact has_true_of_atKey (h3 k hk x hH)
/-- The step. -/
theorem next_sm {ops : Array Oper} {rest : List Oper} {o : Oper} {a : Act} {Q : Exit → Act → World → Prop} (w : World) (hg : o.guard = none) (it : Operand) (hop : o.op = Op.next it false) {b r n cnt : Nat} {H : Nat → Option Mg} {left : Lit → Bool} (hit : a.eval it = .pointer (some ⟨r, 0, none⟩)) (h : RngAt w b r H n left cnt)
    (hDone : (∀ kl, left kl = false) → wpList Try.prog ops Q rest (a.put o.dst (.tuple #[.bool false])) w)
    (hMore : ∀ (k : Nat) (m : Mg) (w' : World) (cnt' : Nat), k < 4294967296 → H k = some m → left (.int .u32 (k : Int)) = true → RngAt w' b r H n (fun z => left z && !z.sameKey (.int .u32 (k : Int))) cnt' → cnt' < cnt → w.grownBy w' (some r) →
      (Instr.entry (.pointer (some ⟨r, 0, none⟩))).run Try.prog w' = .ok (.tuple #[.int .u32 (k : Int), .agg #[.int .i64 m.f, .int .u32 m.q, .int .u64 m.s, .int .i64 m.v, .slice m.a m.dl m.dc, .string m.text]]) w' →
      wpList Try.prog ops Q rest (a.put o.dst (.tuple #[.bool true, .int .u32 (k : Int), .agg #[.int .i64 m.f, .int .u32 m.q, .int .u64 m.s, .int .i64 m.v, .slice m.a m.dl m.dc, .string m.text]])) w') :
    wpList Try.prog ops Q (o :: rest) a w := by
  obtain ⟨D, hr, h1, h2, h3⟩ := h
  refine wpList_next_ranges w hg it hop 23 key32 rdG (fun k : Nat => .int .u32 (k : Int)) (fun m : Mg => valG m) (fun key kl hk => ?_) (fun v y hv => (rdG_inv hv).1) b r n D left cnt hit hr (fun _ hl => hDone hl) (fun k c kl y w' cnt' hkey hlk hv hat hrg hlt hgr hsz hen => ?_)
  · obtain ⟨x, rfl, _, hw⟩ := Maps.keyOf_int_inv Try.underlying23 hk
    have hb := Go.bounds_u32 hw
    exact ⟨x.toNat, by rw [show ((x.toNat : Nat) : Int) = x by omega]⟩
  · obtain ⟨x, ex, rfl, hw⟩ := Maps.keyOf_int_inv Try.underlying23 hkey
    injection ex with _ ex
    subst ex
    have hb := Go.bounds_u32 hw
    have hk : k < 4294967296 := by omega
    have hy := (rdG_inv hv).2
    cases hH : H k with
    | none =>
      have e1 := h2 k hk hH
      rw [has_true_of_atKey hat] at e1
      cases e1
    | some m =>
      have e1 := h3 k hk m hH .nil
      rw [hat, hy] at e1
      injection e1 with e1
      have e2 : valG c = valG m := e1
      simp only [e2] at hen ⊢
      exact hMore k m w' cnt' hk hH hlk ⟨D, hrg, h1, h2, h3⟩ hlt hgr hen
theorem DpIn.below_m {w w' : World} {gm : Nat} {m : Mg} (h : DpIn w m) (hb : Below gm w w') (hg : w.heap.size = gm) : DpIn w' m := h.below (by rw [hg]; exact hb)
/-- Amid the copying. -/
structure CopySt (w wr : World) (b r gc bc sz c n : Nat) (H H' : Nat → Option Mg) (n' : Nat) (left : Lit → Bool) (cnt : Nat) : Prop where
  rng : RngAt wr b r H n left cnt
  st : SmB wr gc bc sz c H' n'
  sum : n' + cnt ≤ n
  yet : ∀ k : Nat, k < 4294967296 → left (.int .u32 (k : Int)) = true → H' k = none
  no : ∀ k : Nat, k < 4294967296 → H k = none → H' k = none
  done : ∀ k : Nat, k < 4294967296 → left (.int .u32 (k : Int)) = false → ∀ x, H k = some x → ∃ x', H' k = some x' ∧ CopyOf wr r x x'
  bel : Below w.heap.size w wr
/-- What Copy leaves. -/
def CopyPost (w : World) (sz c n : Nat) (H : Nat → Option Mg) (e : Ending) (w' : World) : Prop :=
  ∃ (gc bc r : Nat) (H' : Nat → Option Mg), e = .returned (.pointer (some ⟨gc, 0, none⟩)) ∧ SmB w' gc bc sz c H' n ∧ w.heap.size ≤ gc ∧ w.heap.size ≤ bc ∧ (∀ k, k < 4294967296 → H k = none → H' k = none) ∧ (∀ k, k < 4294967296 → ∀ x, H k = some x → ∃ x', H' k = some x' ∧ CopyOf w' r x x') ∧ Below w.heap.size w w' ∧ gc < r ∧ bc < r ∧ w.heap.size ≤ r
/-- One more that is copied. -/
theorem CopySt.next {w wr w5 w6 w7 : World} {b r gc bc sz c n : Nat} {H H' : Nat → Option Mg} {n' : Nat} {left : Lit → Bool} {cnt cnt5 : Nat} (h : CopySt w wr b r gc bc sz c n H H' n' left cnt) (hb : b < w.heap.size) (h1 : w.heap.size ≤ gc) (h2 : w.heap.size ≤ bc) (hr : w.heap.size ≤ r) (hrb : r ≠ gc ∧ r ≠ bc) {k : Nat} {m x : Mg} (hk : k < 4294967296) (hH : H k = some m) (hlk : left (.int .u32 (k : Int)) = true)
    (R5 : RngAt w5 b r H n (fun z => left z && !z.sameKey (.int .u32 (k : Int))) cnt5) (hc : cnt5 < cnt) (G5 : wr.grownBy w5 (some r)) (L6 : Below w5.heap.size w5 w6) (CO : CopyOf w6 w5.heap.size m x) (S7 : SmB w7 gc bc sz c (setF H' k (some x)) (n' + 1)) (T7 : w6.mapTurned w7 bc) :
    CopySt w w7 b r gc bc sz c n H (setF H' k (some x)) (n' + 1) (fun z => left z && !z.sameKey (.int .u32 (k : Int))) cnt5 := by
  have hs := h.sum
  have hlt := h.st.lt
  have hrl := h.rng.lt
  have hs5 := G5.size
  have hs6 := L6.size
  have hwr := h.bel.size
  have L7 : Below w.heap.size w w7 := ((h.bel.grown G5 h.bel.size (fun j e => by cases e; exact hr)).trans (L6.mono (by omega))).grown T7.grown (by omega) (fun j e => by cases e; exact h2)
  have keep : ∀ y y', CopyOf wr r y y' → CopyOf w7 r y y' := fun y y' hy => hy.moved (Nat.le_refl _) (fun j hj hcell => by
    obtain ⟨cc, hcc⟩ := hcell
    have hjl : j < wr.heap.size := by
      cases hv : wr.cell? ⟨j, cc, none⟩ with
      | none => exact absurd hv hcc
      | some u => exact World.block_lt_of_cell? _ _ hv
    have hjr : j ≠ r := by
      rintro rfl
      obtain ⟨D, ⟨es, clock, since, seen, c0, _, _, _, _, hit, _⟩, _⟩ := h.rng
      apply hcc
      simp [World.cell?, hit]
    have hjb : j ≠ bc := by
      rintro rfl
      obtain ⟨D, ⟨es, clock, hit, _⟩, _⟩ := h.st.map
      apply hcc
      simp [World.cell?, hit]
    rw [T7.grown.block j (by omega) (by intro e; injection e with e; exact hjb e), L6.block j (by omega), G5.block j hjl (by intro e; injection e with e; exact hjr e)])
  refine ⟨(R5.below L6).grown T7.grown (fun e => by injection e with e; omega) (fun e => by injection e with e; exact hrb.2 e), S7, by omega, fun j hj hl => ?_, fun j hj hn => ?_, fun j hj hl y hy => ?_, L7⟩
  · simp only [Bool.and_eq_true, Bool.not_eq_true'] at hl
    have hne : j ≠ k := by
      rintro rfl
      rw [WideAt.sameKey_self (isKey32 j hj)] at hl
      cases hl.2
    rw [setF_other _ _ _ hne]
    exact h.yet j hj hl.1
  · have hne : j ≠ k := by rintro rfl; rw [hH] at hn; cases hn
    rw [setF_other _ _ _ hne]
    exact h.no j hj hn
  · by_cases hne : j = k
    · subst hne
      rw [hH] at hy
      injection hy with hy
      subst hy
      exact ⟨x, setF_same _ _ _, CO.moved (by omega) (fun i hi hcell => by
        obtain ⟨cc, hcc⟩ := hcell
        have hil : i < w6.heap.size := by
          cases hv : w6.cell? ⟨i, cc, none⟩ with
          | none => exact absurd hv hcc
          | some u => exact World.block_lt_of_cell? _ _ hv
        exact T7.grown.block i hil (by intro e; injection e with e; omega))⟩
    · have hl2 : left (.int .u32 (j : Int)) = false := by
        cases e : left (.int .u32 (j : Int)) with
        | false => rfl
        | true =>
          rw [e, Maps.sameKey_ne (lit_ne hne)] at hl
          cases hl
      obtain ⟨y', e1, e2⟩ := h.done j hj hl2 y hy
      exact ⟨y', by rw [setF_other _ _ _ hne]; exact e1, keep y y' e2⟩
theorem CopySt.end_ {w wr : World} {b r gc bc sz c n : Nat} {H H' : Nat → Option Mg} {n' : Nat} {left : Lit → Bool} {cnt : Nat} (h : CopySt w wr b r gc bc sz c n H H' n' left cnt) (hl : ∀ kl, left kl = false) (h1 : w.heap.size ≤ gc) (h2 : w.heap.size ≤ bc) (hr : w.heap.size ≤ r) (hlr : gc < r ∧ bc < r) : CopyPost w sz c n H (.returned (.pointer (some ⟨gc, 0, none⟩))) wr := by
  have hd : ∀ k : Nat, k < 4294967296 → ∀ x, H k = some x → ∃ x', H' k = some x' ∧ CopyOf wr r x x' := fun k hk x hx => h.done k hk (hl _) x hx
  have hn : n' = n := by
    have e1 := h.sum
    have e2 := MapAt.sizes h.st.map h.rng.map (fun k hk hk' => by
      cases hH : H k with
      | none => rfl
      | some x => obtain ⟨x', e, _⟩ := hd k hk x hH; rw [hk'] at e; cases e)
    omega
  rw [hn] at h
  exact ⟨gc, bc, r, H', rfl, h.st, h1, h2, h.no, hd, h.bel, hlr.1, hlr.2, hr⟩
set_option maxHeartbeats 8000000 in
set_option maxRecDepth 100000 in
theorem scopy {w : World} {g b sz c n : Nat} {H : Nat → Option Mg} (h : SmB w g b sz c H n) (hn : n ≤ 100000) (hd : ∀ k : Nat, k < 4294967296 → ∀ x, H k = some x → DpIn w x ∧ x.dl ≤ 1048576) :
    Calls Try.prog 19 #[.pointer (some ⟨g, 0, none⟩)] w (CopyPost w sz c n H) := by
  have hmm := @run_makeMap Try.prog
  have HH := Lib.hid h
  have HD := Lib.hid hd
  have hlt := h.lt
  clear h hd
  go_enter Try.func19, Try.ntmps19
  go_upto_region 1 with fail
  have HS0 := HH.out.drew
  refine wp_region_held_drew (S := fun w' => Own w' g 56 #[.int .u32 (sz : Int), .int .u32 (c : Int), .map (some b)]) (by kernel_rfl) HS0.own (fun hHeld => ?_)
  have HG := Lib.hid (show Grw w w.drew from (Grw.refl w).drew)
  have HS := Lib.hid HS0
  clear HS0
  generalize w.drew = w1 at *
  refine stake (i := 0) (v := (.pointer (some ⟨g, 0, none⟩))) 6 rfl (by kernel_rfl) (by kernel_rfl) (by kernel_rfl) (by kernel_rfl) (fun _ _ _ h => h) (.inl ⟨by kernel_rfl, fun w' hS => by (go_simp)⟩) hHeld ?_
  (try simp only [Act.put, List.setIfInBounds_toArray, List.set_cons_zero, List.set_cons_succ])
  refine stake (i := 1) (v := (.pointer (some ⟨g, 0, none⟩))) 7 rfl (by kernel_rfl) (by kernel_rfl) (by kernel_rfl) (by kernel_rfl) (fun _ _ _ h => h) (.inl ⟨by kernel_rfl, fun w' hS => by (go_simp)⟩) hHeld ?_
  (try simp only [Act.put, List.setIfInBounds_toArray, List.set_cons_zero, List.set_cons_succ])
  refine stake (i := 2) (v := (.pointer (some ⟨g, 0, none⟩))) 8 rfl (by kernel_rfl) (by kernel_rfl) (by kernel_rfl) (by kernel_rfl) (fun _ _ _ h => h) (.inl ⟨by kernel_rfl, fun w' hS => by (go_simp)⟩) hHeld ?_
  (try simp only [Act.put, List.setIfInBounds_toArray, List.set_cons_zero, List.set_cons_succ])
  refine stake (i := 3) (v := (.int .u32 (sz : Int))) 9 rfl (by kernel_rfl) (by kernel_rfl) (by kernel_rfl) (by kernel_rfl) (fun _ _ _ h => h) (.inl ⟨by kernel_rfl, fun w' hS => by (have hc := hS.at_ 0 _ rfl; go_simp)⟩) hHeld ?_
  (try simp only [Act.put, List.setIfInBounds_toArray, List.set_cons_zero, List.set_cons_succ])
  refine stake (i := 4) (v := (.pointer (some ⟨g, 0, none⟩))) 10 rfl (by kernel_rfl) (by kernel_rfl) (by kernel_rfl) (by kernel_rfl) (fun _ _ _ h => h) (.inl ⟨by kernel_rfl, fun w' hS => by (go_simp)⟩) hHeld ?_
  (try simp only [Act.put, List.setIfInBounds_toArray, List.set_cons_zero, List.set_cons_succ])
  refine stake (i := 5) (v := (.pointer (some ⟨g, 0, none⟩))) 11 rfl (by kernel_rfl) (by kernel_rfl) (by kernel_rfl) (by kernel_rfl) (fun _ _ _ h => h) (.inl ⟨by kernel_rfl, fun w' hS => by (go_simp)⟩) hHeld ?_
  (try simp only [Act.put, List.setIfInBounds_toArray, List.set_cons_zero, List.set_cons_succ])
  refine stake (i := 6) (v := (.pointer (some ⟨g, 1, none⟩))) 12 rfl (by kernel_rfl) (by kernel_rfl) (by kernel_rfl) (by kernel_rfl) (fun _ _ _ h => h) (.inl ⟨by kernel_rfl, fun w' hS => by (go_simp)⟩) hHeld ?_
  (try simp only [Act.put, List.setIfInBounds_toArray, List.set_cons_zero, List.set_cons_succ])
  refine stake (i := 7) (v := (.int .u32 (c : Int))) 13 rfl (by kernel_rfl) (by kernel_rfl) (by kernel_rfl) (by kernel_rfl) (fun _ _ _ h => h) (.inl ⟨by kernel_rfl, fun w' hS => by (have hc := hS.at_ 1 _ rfl; go_simp)⟩) hHeld ?_
  (try simp only [Act.put, List.setIfInBounds_toArray, List.set_cons_zero, List.set_cons_succ])
  refine wpAnyH_ready (rs := [8]) (by kernel_rfl) (by simp) (AllReadyH.cons rfl (fun K hK => ?_) AllReadyH.nil)
  clear hHeld
  rw [if_pos (by kernel_rfl)]
  go_simp
  have M2 := MapAt.made w1
  have S2 := HS.out.alloc (.map #[] 0)
  have G2 := HG.out.alloc (.map #[] 0)
  have hbc : w.heap.size ≤ w1.heap.size := HG.out.below.size
  clear HS HG
  generalize (w1.alloc (.map #[] 0)) = w2 at *
  generalize w1.heap.size = bc at *
  refine hK.out _ _ S2.own (fun hHeld => ?_)
  clear hK K
  (try simp only [Act.put, List.setIfInBounds_toArray, List.set_cons_zero, List.set_cons_succ])
  refine stake (i := 9) (v := (.agg #[.int .u32 (sz : Int), .int .u32 (c : Int), .map (some bc)])) 15 rfl (by kernel_rfl) (by kernel_rfl) (by kernel_rfl) (by kernel_rfl) (fun _ _ _ h => h) (.inl ⟨by kernel_rfl, fun w' hS => by (go_simp)⟩) hHeld ?_
  (try simp only [Act.put, List.setIfInBounds_toArray, List.set_cons_zero, List.set_cons_succ])
  refine wpAnyH_ready (rs := [10]) (by kernel_rfl) (by simp) (AllReadyH.cons rfl (fun K hK => ?_) AllReadyH.nil)
  clear hHeld
  rw [if_pos (by kernel_rfl)]
  go_simp
  have C3 : SmB (w2.alloc (.cells #[.int .u32 (sz : Int), .int .u32 (c : Int), .map (some bc)] 56)) w2.heap.size bc sz c (fun _ => none) 0 := ⟨Own.new w2 _ _, M2.alloc _⟩
  have S3 := S2.alloc (.cells #[.int .u32 (sz : Int), .int .u32 (c : Int), .map (some bc)] 56)
  have G3 := G2.alloc (.cells #[.int .u32 (sz : Int), .int .u32 (c : Int), .map (some bc)] 56)
  have hgc : w.heap.size ≤ w2.heap.size := G2.below.size
  clear M2 S2 G2
  generalize (w2.alloc (.cells #[.int .u32 (sz : Int), .int .u32 (c : Int), .map (some bc)] 56)) = w3 at *
  generalize w2.heap.size = gc at *
  refine hK.out _ _ S3.own (fun hHeld => ?_)
  clear hK K
  (try simp only [Act.put, List.setIfInBounds_toArray, List.set_cons_zero, List.set_cons_succ])
  refine stake (i := 11) (v := (.pointer (some ⟨gc, 0, none⟩))) 3 rfl (by kernel_rfl) (by kernel_rfl) (by kernel_rfl) (by kernel_rfl) (fun _ _ _ h => h) (.inl ⟨by kernel_rfl, fun w' hS => by (go_simp)⟩) hHeld ?_
  (try simp only [Act.put, List.setIfInBounds_toArray, List.set_cons_zero, List.set_cons_succ])
  refine wpAnyH_done (by kernel_rfl) ?_ _
  clear hHeld
  have c2 := S3.own.at_ 2 _ rfl
  have HM3 := Lib.hid S3.map
  have HC3 := Lib.hid C3
  have HG3 := Lib.hid G3
  have h3lt := C3.lt
  have h3lt2 := S3.lt
  have h3s := G3.below.size
  clear C3 G3 S3 hmm
  go_wp2_with (at_range; refine range_sm _ rfl _ rfl rfl HM3.out ?_; intro w4 left R4 hl4 L4 hs4)
  go_frame
  have HST : Hid (CopySt w w4 b w3.heap.size gc bc sz c n H (fun _ => none) 0 left n) := Lib.hid ⟨R4, HC3.out.below L4, by omega, fun _ _ _ => rfl, fun _ _ _ => rfl, (fun k hk hf x hx => by
    rw [hl4 k hk, hx] at hf
    cases hf), HG3.out.below.trans (L4.mono HG3.out.below.size)⟩
  clear R4 hl4 L4 hs4 HC3 HG3 c2 HM3
  have hr : w.heap.size ≤ w3.heap.size := by omega
  have hrb : w3.heap.size ≠ gc ∧ w3.heap.size ≠ bc := by omega
  generalize w3.heap.size = r at *
  go_loopw [4] (fun _ wr => ∃ (left : Lit → Bool) (cnt n1 : Nat) (H1 : Nat → Option Mg), CopySt w wr b r gc bc sz c n H H1 n1 left cnt) (fun _ wr => wr.rangeLeft b r)
  case atStart => exact ⟨left, n, 0, fun _ => none, HST.out⟩
  case round =>
    obtain ⟨left1, cnt1, n1, H1, hst⟩ := hrel
    have HS1 := Lib.hid hst
    clear hst
    go_wp2_with (first
      | (at_next; refine next_sm _ rfl _ rfl rfl HS1.out.rng (fun hl0 => ?_) (fun k m w5 cnt5 hk hHk hlk R5 hc5 G5 hen => ?_))
      | (refine store_mg rfl (.tmp 5) (.tmp 26) rfl w5.heap.size m rfl rfl (MgB.new w5 zeroG) ?_))
    · have HE := Lib.hid (HS1.out.end_ hl0 hgc hbc hr h3lt)
      clear HS1 hl0
      go_ret
      exact HE.out
    · have MB : MgB ((w5.alloc (.cells #[.int .i64 0, .int .u32 0, .int .u64 0, .int .i64 0, .slice none 0 0, .string { data := #[] }] 37)).setRow w5.heap.size (encG m).toArray) w5.heap.size m := (MgB.new w5 zeroG).row m
      have L6 : Below w5.heap.size w5 ((w5.alloc (.cells #[.int .i64 0, .int .u32 0, .int .u64 0, .int .i64 0, .slice none 0 0, .string { data := #[] }] 37)).setRow w5.heap.size (encG m).toArray) := belowRow10 ((Grw.refl w5).alloc _).below _ (Nat.le_refl _) _
      have hwr := HS1.out.bel.size
      have L5 : Below w.heap.size w w5 := HS1.out.bel.grown G5 HS1.out.bel.size (fun j e => by cases e; exact hr)
      have hs5 := G5.size
      have S5 : SmB w5 gc bc sz c H1 n1 := HS1.out.st.grown G5 (fun e => by injection e with e; exact hrb.1 e.symm) (fun e => by injection e with e; exact hrb.2 e.symm)
      clear hen
      generalize ((w5.alloc (.cells #[.int .i64 0, .int .u32 0, .int .u64 0, .int .i64 0, .slice none 0 0, .string { data := #[] }] 37)).setRow w5.heap.size (encG m).toArray) = w6 at *
      have S6 := S5.below L6
      have hm6 : w5.heap.size < w6.heap.size := MB.lt
      have hz6 : w5.heap.size ≤ w5.heap.size := Nat.le_refl _
      have HT0 : THeld gc bc sz c w5.heap.size m w6.drew := ⟨S6.own.drew, MB.later (Grw.refl w6).drew.below⟩
      have HL5 := Lib.hid L5
      have HL6 : Hid (Below w5.heap.size w5 w6.drew) := Lib.hid (L6.trans ((Grw.refl w6).drew.below.mono L6.size))
      have HS6 := Lib.hid S6.drew
      have HX := Lib.hid (show RngAt w5 b r H n (fun z => left1 z && !z.sameKey (.int .u32 (k : Int))) cnt5 ∧ cnt5 < cnt1 ∧ wr.grownBy w5 (some r) from ⟨R5, hc5, G5⟩)
      have HK := Lib.hid (show H k = some m ∧ left1 (.int .u32 (k : Int)) = true from ⟨hHk, hlk⟩)
      clear L5 L6 S5 S6 MB R5 hc5 G5 hHk hlk
      refine wp_region_held_drew (S := THeld gc bc sz c w5.heap.size m) (by kernel_rfl) HT0 (fun hHeld => ?_)
      have hm7 : w5.heap.size < w6.drew.heap.size := hm6
      clear HT0 hm6
      generalize w6.drew = w7 at *
      generalize hgm : w5.heap.size = gm at *
      refine stake (i := 0) (v := (.pointer (some ⟨gc, 0, none⟩))) 27 rfl (by kernel_rfl) (by kernel_rfl) (by kernel_rfl) (by kernel_rfl) (fun _ _ _ h => h) (.inl ⟨by kernel_rfl, fun w' hS => by (go_simp)⟩) hHeld ?_
      (try simp only [Act.put, List.setIfInBounds_toArray, List.set_cons_zero, List.set_cons_succ])
      refine stake (i := 1) (v := (.pointer (some ⟨gc, 0, none⟩))) 28 rfl (by kernel_rfl) (by kernel_rfl) (by kernel_rfl) (by kernel_rfl) (fun _ _ _ h => h) (.inl ⟨by kernel_rfl, fun w' hS => by (go_simp)⟩) hHeld ?_
      (try simp only [Act.put, List.setIfInBounds_toArray, List.set_cons_zero, List.set_cons_succ])
      refine stake (i := 2) (v := (.pointer (some ⟨gc, 2, none⟩))) 29 rfl (by kernel_rfl) (by kernel_rfl) (by kernel_rfl) (by kernel_rfl) (fun _ _ _ h => h) (.inl ⟨by kernel_rfl, fun w' hS => by (go_simp)⟩) hHeld ?_
      (try simp only [Act.put, List.setIfInBounds_toArray, List.set_cons_zero, List.set_cons_succ])
      refine stake (i := 3) (v := (.map (some bc))) 30 rfl (by kernel_rfl) (by kernel_rfl) (by kernel_rfl) (by kernel_rfl) (fun _ _ _ h => h) (.inl ⟨by kernel_rfl, fun w' hS => by (have hc := hS.own.at_ 2 _ rfl; go_simp)⟩) hHeld ?_
      (try simp only [Act.put, List.setIfInBounds_toArray, List.set_cons_zero, List.set_cons_succ])
      refine stake (i := 4) (v := (.int .u32 (k : Int))) 31 rfl (by kernel_rfl) (by kernel_rfl) (by kernel_rfl) (by kernel_rfl) (fun _ _ _ h => h) (.inl ⟨by kernel_rfl, fun w' hS => by (go_simp)⟩) hHeld ?_
      (try simp only [Act.put, List.setIfInBounds_toArray, List.set_cons_zero, List.set_cons_succ])
      refine stake (i := 5) (v := (.agg #[.int .i64 m.f, .int .u32 m.q, .int .u64 m.s, .int .i64 m.v, .slice m.a m.dl m.dc, .string m.text])) 32 rfl (by kernel_rfl) (by kernel_rfl) (by kernel_rfl) (by kernel_rfl) (fun _ _ _ h => h) (yields_mg (m := m) (by kernel_rfl) (.tmp 5) rfl gm (by kernel_rfl) (fun _ hS => hS.msg)) hHeld ?_
      (try simp only [Act.put, List.setIfInBounds_toArray, List.set_cons_zero, List.set_cons_succ])
      have HS := Lib.hid hHeld
      have hxd := HD.out k hk m HK.out.1
      have HOW := own_any m w7 ((hxd.1.below HL5.out).below_m HL6.out hgm) hxd.2
      unfold valG at HOW
      simp only [encG] at HOW
      refine wpAnyH_ready (rs := [6]) (by kernel_rfl) (by simp) (AllReadyH.cons rfl (fun K hK => ?_) AllReadyH.nil)
      clear hHeld
      rw [if_pos (by kernel_rfl)]
      go_simp
      refine HOW.mono ?_
      rintro e w8 ⟨x, rfl, CO, L8⟩
      have H8 : THeld gc bc sz c gm m w8 := ⟨HS.out.own.below L8 HS.out.own.lt, HS.out.msg.later L8⟩
      have S8 := HS6.out.below L8
      refine hK.out _ _ H8 (fun hHeld => ?_)
      clear hK K HS H8 HS6 HOW
      (try simp only [Act.put, List.setIfInBounds_toArray, List.set_cons_zero, List.set_cons_succ])
      obtain ⟨w9, hrun9, A9, T9⟩ := S8.map.store k hk (HS1.out.yet k hk HK.out.2) (by have := HS1.out.sum; unfold maxLen; omega) x
      unfold valG at hrun9
      simp only [encG] at hrun9
      have S9 : SmB w9 gc bc sz c (setF H1 k (some x)) (n1 + 1) := ⟨S8.own.grown T9.grown (fun e => by cases e; exact S8.ne rfl), A9⟩
      have L68 : Below gm w5 w8 := HL6.out.trans (L8.mono (by omega))
      have H9 : THeld gc bc sz c gm m w9 := ⟨S9.own, own_turned hHeld.msg T9⟩
      have CO5 : CopyOf w8 gm m x := ⟨CO.like, CO.deps, fun ad e => by have := CO.new ad e; omega⟩
      have HN := Lib.hid (CopySt.next HS1.out hlt.2 hgc hbc hr hrb hk HK.out.1 HK.out.2 HX.out.1 HX.out.2.1 HX.out.2.2 (by rw [hgm]; exact L68) (by rw [hgm]; exact CO5) S9 T9)
      have HEQ := Lib.hid (show wr.rangeLeft b r = cnt1 ∧ cnt5 < cnt1 from ⟨HS1.out.rng.left_eq, HX.out.2.1⟩)
      clear S8 A9 T9 L8 CO CO5 L68 S9 HX HK HL5 HL6 HS1
      refine wpAnyH_ready (rs := [7]) (by kernel_rfl) (by simp) (AllReadyH.cons rfl (fun K hK => ?_) AllReadyH.nil)
      clear hHeld
      rw [if_pos (by kernel_rfl)]
      go_simp
      refine hK.out _ _ H9 (fun hHeld => ?_)
      clear hK K hHeld hrun9 H9
      refine wpAnyH_done (by kernel_rfl) ?_ _
      go_wp2_with fail
      go_roundw
      case rel => exact ⟨_, _, _, _, HN.out⟩
      case measure =>
        rw [HN.out.rng.left_eq, HEQ.out.1]
        exact HEQ.out.2
/-- The blocks of one more stream. -/
def addS (F : Nat → Prop) (gc bc : Nat) : Nat → Prop := fun k => F k ∨ k = gc ∨ k = bc
theorem scopy_any {w : World} {F : Nat → Prop} {g b : Nat} {S : Sm Mg} (h : SmRep w F g b S) (hI : SmInv sqG S) (hdl : ∀ m ∈ S.held, m.dl ≤ 1048576) :
    Calls Try.prog 19 #[.pointer (some ⟨g, 0, none⟩)] w fun e w' => ∃ gc bc, e = .returned (.pointer (some ⟨gc, 0, none⟩)) ∧ SmRep w' (addS F gc bc) g b S ∧ SmRep w' (addS F gc bc) gc bc S ∧ w.heap.size ≤ gc ∧ w.heap.size ≤ bc ∧ Below w.heap.size w w' := by
  have hfew := hI.few
  obtain ⟨H, hS, hR⟩ := h.ex
  have hd : ∀ k : Nat, k < 4294967296 → ∀ x, H k = some x → DpIn w x ∧ x.dl ≤ 1048576 := fun k hk x hx => by
    cases hg : getS sqG S.held k with
    | none => rw [hR.no k hk hg] at hx; cases hx
    | some m =>
      obtain ⟨y, e1, e2, e3⟩ := hR.yes k hk m hg
      rw [hx] at e1
      injection e1 with e1
      subst e1
      exact ⟨e3.deps, by rw [e2.dl]; exact hdl m (getS_some sqG hg).1⟩
  refine (scopy hS (by omega) hd).mono ?_
  rintro e w' ⟨gc, bc, r, H', rfl, S', h1, h2, hno, hyes, L, hr1, hr2, hr3⟩
  have hl := S'.lt
  have hlim : ∀ k, addS F gc bc k → k < w'.heap.size := by
    rintro k (hk | rfl | rfl)
    · exact Nat.lt_of_lt_of_le (h.lim k hk) L.size
    · exact hl.1
    · exact hl.2
  refine ⟨gc, bc, rfl, ⟨.inl h.fg, .inl h.fb, hlim, H, hS.below L, (hR.more (F' := addS F gc bc) ?_).kept fun k hk _ => L.block k hk⟩, ⟨.inr (.inl rfl), .inr (.inr rfl), hlim, H', S', ⟨fun k hk hg => hno k hk (hR.no k hk hg), fun k hk m hg => ?_⟩⟩, h1, h2, L⟩
  · rintro k (hk | rfl | rfl)
    · exact .inl hk
    · exact .inr h1
    · exact .inr h2
  · obtain ⟨x, e1, e2, e3⟩ := hR.yes k hk m hg
    obtain ⟨x', f1, f2⟩ := hyes k hk x e1
    refine ⟨x', f1, f2.like.trans e2, f2.deps, fun ad e _ hf => ?_⟩
    have := f2.new ad e
    rcases hf with hf | hf | hf
    · have := h.lim _ hf; omega
    · omega
    · omega
end Go.Proofs.Ytcnfkjjfegjecaa
