/- A message in memory of its own: slices.Clone of its Deps, own. -/
import Derived.Test.YtcnfkjjfegjecaaSKit
import Derived.Lib.SliceRun
import Derived.Lib.Slices
import Derived.Lib.Walk
import Derived.Deep.Slices
import Derived.Deep.DeepCutAuto
import Derived.Laws.ResultCell
set_option linter.unusedVariables false
set_option linter.unusedSimpArgs false
namespace Go.Proofs.Ytcnfkjjfegjecaa
open Go.RowKit Go.Sort Go.Maps

theorem add_lit10 (b o k : Nat) : (⟨b, o, none⟩ : Addr).add k = ⟨b, o + k, none⟩ := by cases k <;> simp [Addr.add]
theorem info32s : (Try.prog.info? 23).map (fun i => (i.zero, i.size, i.bytes)) = some (some (.int .u32 0), 1, 4) := by kernel_rfl
/-- x is m, but for where its Deps lie. -/
def Like (x m : Mg) : Prop := ∃ a dc, x = { m with a := a, dc := dc }
theorem Like.refl (m : Mg) : Like m m := ⟨m.a, m.dc, rfl⟩
theorem Like.q {x m : Mg} (h : Like x m) : x.q = m.q := by obtain ⟨a, dc, rfl⟩ := h; rfl
theorem Like.dl {x m : Mg} (h : Like x m) : x.dl = m.dl := by obtain ⟨a, dc, rfl⟩ := h; rfl
theorem Like.same {x m : Mg} (h : Like x m) : sameG x m = true := by
  obtain ⟨a, dc, rfl⟩ := h
  unfold sameG
  simp
theorem Like.trans {x y m : Mg} (h : Like x y) (k : Like y m) : Like x m := by
  obtain ⟨a, dc, rfl⟩ := h
  obtain ⟨a', dc', rfl⟩ := k
  exact ⟨a, dc, rfl⟩
/-- A copy of m whose Deps lie in blocks from B on. -/
structure CopyOf (w : World) (B : Nat) (m x : Mg) : Prop where
  like : Like x m
  deps : DpIn w x
  new : ∀ ad, x.a = some ad → B ≤ ad.block

def encW (n : Int) : List Value := [.int .u32 n]
set_option maxHeartbeats 2000000 in
set_option maxRecDepth 100000 in
theorem cloneW_some (ad : Addr) (n c : Nat) (l : List Int) (w : World) (hn : n ≤ 1048576) (hc : Lst (fun n : Int => [.int .u32 n]) 1 w (some ad) n l) :
    Calls Try.prog 24 #[.slice (some ad) n c] w fun e w' => ∃ a' dc', e = .returned (.slice a' n dc') ∧ Lst (fun n : Int => [.int .u32 n]) 1 w' a' n l ∧ (∀ x, a' = some x → w.heap.size ≤ x.block) ∧ Below w.heap.size w w' := by
  obtain ⟨i0, hi, hz0, hz1, hz2⟩ := info_parts info32s
  have q : ∀ (w : World) (a : Option Addr) (n c n' c' : Nat), (binOp .eql 35 (.slice a n c) (.slice none n' c')).run Try.prog w = .ok (.bool a.isNone) w := fun w a n c n' c' => Lib.run_eql_slice_nil w _ _ a n c n' c' Try.underlying35
  have HC := Lib.hid hc
  clear hc
  go_enter Try.func24, Try.ntmps24
  go_wp2_with (at_builtin; refine wpList_append_own _ rfl _ _ 35 rfl w.heap.size 23 i0 (.int .u32 0) 1 4 Try.underlying35 hi hz0 hz1 hz2 rfl (by decide) _ _ _ rfl (World.ownsRow_made w #[] 0 (Nat.le_refl _) (Nat.zero_le _) (by simp)) ad n c (flat encW l) rfl ?qc1 ?qc2 ?qc3 ?qc4 ?qc5 ?qc6 ?_)
  case qc1 => rw [flat_length encW 1 (fun _ => rfl), HC.out.size]
  case qc2 =>
    intro j u hj
    have hj' : j < l.length * 1 := by have := (List.getElem?_eq_some_iff.1 hj).1; rwa [flat_length encW 1 (fun _ => rfl)] at this
    obtain ⟨b, o, e, R⟩ := HC.out.src (by rw [← HC.out.size]; omega)
    injection e with e
    subst e
    rw [add_lit10]
    exact cell_later ((Grw.refl w).alloc _).below (RowAt.flat (enc := encW) (fun _ => rfl) R j u hj)
  case qc3 =>
    intro u hu
    unfold flat at hu
    obtain ⟨c, hc, huc⟩ := List.mem_flatten.1 hu
    obtain ⟨m, _, rfl⟩ := List.mem_map.1 hc
    simp only [encW, List.mem_singleton] at huc
    subst huc
    rfl
  case qc4 => rw [Nat.zero_add]; unfold maxLen; omega
  case qc5 => rw [Nat.zero_add]; omega
  case qc6 => simp
  intro v' w1 hown hgrow hnil
  have hown2 := own_eq (n' := n) (xs' := flat encW l) hown (by first | rfl | omega) (by first | rfl | exact List.nil_append _)
  obtain ⟨a', dc', rfl⟩ := own_form' hown2
  have HL := Lib.hid (own_lst' (enc := encW) (fun _ => rfl) HC.out.size hown2)
  have HN : Hid (∀ x, a' = some x → w.heap.size ≤ x.block) := Lib.hid fun x hx => (hown2.lt x.block (by rw [hx]; rfl)).1
  have HB := Lib.hid (((Below.refl _ w).alloc (Nat.le_refl _) (.cells #[] 23)).grown hgrow (by simp) (by intro k hk; simp [Value.ownBlock] at hk; omega))
  clear hown hown2 hgrow hnil
  go_wp2
  go_ret
  exact ⟨a', ⟨dc', rfl⟩, HL.out, HN.out, HB.out⟩
set_option maxHeartbeats 1000000 in
theorem cloneW_nil (n c : Nat) (w : World) : Calls Try.prog 24 #[.slice none n c] w fun e w' => e = .returned (.slice none 0 0) ∧ w = w' := by
  have q : ∀ (w : World) (a : Option Addr) (n c n' c' : Nat), (binOp .eql 35 (.slice a n c) (.slice none n' c')).run Try.prog w = .ok (.bool a.isNone) w := fun w a n c n' c' => Lib.run_eql_slice_nil w _ _ a n c n' c' Try.underlying35
  go_enter Try.func24, Try.ntmps24
  go_wp2
  go_ret
  exact ⟨rfl, rfl⟩
theorem cloneW (a : Option Addr) (n c : Nat) (l : List Int) (w : World) (hn : n ≤ 1048576) (hc : Lst (fun n : Int => [.int .u32 n]) 1 w a n l) :
    Calls Try.prog 24 #[.slice a n c] w fun e w' => ∃ a' dc', e = .returned (.slice a' n dc') ∧ Lst (fun n : Int => [.int .u32 n]) 1 w' a' n l ∧ (∀ x, a' = some x → w.heap.size ≤ x.block) ∧ Below w.heap.size w w' := by
  cases a with
  | some ad => exact cloneW_some ad n c l w hn hc
  | none =>
    have h0 : n = 0 := by
      rcases Nat.eq_zero_or_pos n with e | e
      · exact e
      · obtain ⟨_, _, e', _⟩ := hc.src e; cases e'
    subst h0
    refine (cloneW_nil 0 c w).mono ?_
    rintro e w' ⟨rfl, rfl⟩
    exact ⟨none, 0, rfl, hc, (fun x hx => by cases hx), Below.refl _ _⟩

/-- A message's block. -/
def MgB (w : World) (g : Nat) (m : Mg) : Prop := Own w g 37 (encG m).toArray
theorem MgB.own {w : World} {g : Nat} {m : Mg} (h : MgB w g m) : Own w g 37 #[.int .i64 m.f, .int .u32 m.q, .int .u64 m.s, .int .i64 m.v, .slice m.a m.dl m.dc, .string m.text] := h
theorem MgB.new (w : World) (m : Mg) : MgB (w.alloc (.cells #[.int .i64 m.f, .int .u32 m.q, .int .u64 m.s, .int .i64 m.v, .slice m.a m.dl m.dc, .string m.text] 37)) w.heap.size m := Own.new w _ _
theorem MgB.later {w w' : World} {g : Nat} {m : Mg} (h : MgB w g m) (hb : Below w.heap.size w w') : MgB w' g m := Own.below h hb (Own.lt h)
theorem MgB.row {w : World} {g : Nat} {m : Mg} (h : MgB w g m) (x : Mg) : MgB (w.setRow g (encG x).toArray) g x := setRow_heap _ _ _ _ _ _ h
theorem MgB.lt {w : World} {g : Nat} {m : Mg} (h : MgB w g m) : g < w.heap.size := Own.lt h
theorem mg_one (m : Mg) : (encG m).toArray.all (·.oneCell') = true := by simp [encG, Value.oneCell']
theorem store_mg {ops : Array Oper} {rest : List Oper} {o : Oper} {A : Act} {w : World} {Q : Exit → Act → World → Prop} (hgd : o.guard = none) (x y : Operand) (ho : o.op = .store 37 x y)
    (g : Nat) (m : Mg) (hx : A.eval x = .pointer (some ⟨g, 0, none⟩)) (hy : A.eval y = valG m) {m0 : Mg} (hg : MgB w g m0)
    (h : wpList Try.prog ops Q rest (A.put o.dst undef) (w.setRow g (encG m).toArray)) : wpList Try.prog ops Q (o :: rest) A w :=
  wpList_store_row hgd 37 x y ho g _ hx hy 37 _ hg msg_size rfl (mg_one m) h
theorem load_mg {ops : Array Oper} {rest : List Oper} {o : Oper} {A : Act} {w : World} {Q : Exit → Act → World → Prop} (hgd : o.guard = none) (x : Operand) (ho : o.op = .load 37 x)
    (g : Nat) (hx : A.eval x = .pointer (some ⟨g, 0, none⟩)) {m : Mg} (hg : MgB w g m)
    (h : wpList Try.prog ops Q rest (A.put o.dst (valG m)) w) : wpList Try.prog ops Q (o :: rest) A w :=
  wpList_load_row hgd 37 x ho g hx 37 _ _ _ hg Try.underlying37 rfl msg_size h
theorem results_mg {fn : Func} {p : Tmp} (h : fn.results = #[.cell p 37]) (tmps : Array Value) (w : World) (g : Nat) {m : Mg} (hp : tmps.getD p undef = .pointer (some ⟨g, 0, none⟩)) (hg : MgB w g m) :
    (results fn tmps).run Try.prog w = .ok (valG m) w :=
  results_cell_row h tmps w g 37 _ (0, 0) _ hp hg Try.underlying37 rfl msg_size
theorem belowRow10 {B : Nat} {a w : World} (h : Go.RowKit.Below B a w) (g : Nat) (hg : B ≤ g) (cs : Array Value) : Go.RowKit.Below B a (w.setRow g cs) :=
  ⟨h.os, h.tape, h.output, by rw [size_setRow]; exact h.size, fun k hk => (setRow_other _ _ _ _ (by omega)).trans (h.block k hk)⟩

set_option maxHeartbeats 2000000 in
theorem own_any (m : Mg) (w : World) (hd : DpIn w m) (hdl : m.dl ≤ 1048576) :
    Calls Try.prog 21 #[valG m] w fun e w' => ∃ x, e = .returned (valG x) ∧ CopyOf w' w.heap.size m x ∧ Below w.heap.size w w' := by
  obtain ⟨f, q, s, v, a, dl, dc, deps, text⟩ := m
  simp only at hdl
  have W2 := (((Grw.refl w).alloc (.cells #[.int .i64 f, .int .u32 q, .int .u64 s, .int .i64 v, .slice a dl dc, .string text] 37)).alloc (.cells #[.int .i64 0, .int .u32 0, .int .u64 0, .int .i64 0, .slice none 0 0, .string { data := #[] }] 37)).below
  have M0 : MgB ((w.alloc (.cells #[.int .i64 f, .int .u32 q, .int .u64 s, .int .i64 v, .slice a dl dc, .string text] 37)).alloc (.cells #[.int .i64 0, .int .u32 0, .int .u64 0, .int .i64 0, .slice none 0 0, .string { data := #[] }] 37)) w.heap.size ⟨f, q, s, v, a, dl, dc, deps, text⟩ := (MgB.new w ⟨f, q, s, v, a, dl, dc, deps, text⟩).later ((Grw.refl _).alloc _).below
  have M1 : MgB ((w.alloc (.cells #[.int .i64 f, .int .u32 q, .int .u64 s, .int .i64 v, .slice a dl dc, .string text] 37)).alloc (.cells #[.int .i64 0, .int .u32 0, .int .u64 0, .int .i64 0, .slice none 0 0, .string { data := #[] }] 37)) (w.heap.size + 1) zeroG := by
    have := MgB.new (w.alloc (.cells #[.int .i64 f, .int .u32 q, .int .u64 s, .int .i64 v, .slice a dl dc, .string text] 37)) zeroG
    rw [show (w.alloc (.cells #[.int .i64 f, .int .u32 q, .int .u64 s, .int .i64 v, .slice a dl dc, .string text] 37)).heap.size = w.heap.size + 1 by simp] at this
    exact this
  have hcl := cloneW a dl dc deps ((w.alloc (.cells #[.int .i64 f, .int .u32 q, .int .u64 s, .int .i64 v, .slice a dl dc, .string text] 37)).alloc (.cells #[.int .i64 0, .int .u32 0, .int .u64 0, .int .i64 0, .slice none 0 0, .string { data := #[] }] 37)) hdl (Lst.below hd W2)
  unfold valG
  simp only [encG]
  clear hd
  go_enter Try.func21, Try.ntmps21
  go_upto_region 1 with fail
  have hz : ((w.alloc (.cells #[.int .i64 f, .int .u32 q, .int .u64 s, .int .i64 v, .slice a dl dc, .string text] 37)).alloc (.cells #[.int .i64 0, .int .u32 0, .int .u64 0, .int .i64 0, .slice none 0 0, .string { data := #[] }] 37)).heap.size = w.heap.size + 2 := by simp
  generalize ((w.alloc (.cells #[.int .i64 f, .int .u32 q, .int .u64 s, .int .i64 v, .slice a dl dc, .string text] 37)).alloc (.cells #[.int .i64 0, .int .u32 0, .int .u64 0, .int .i64 0, .slice none 0 0, .string { data := #[] }] 37)) = W at *
  have c4 := M0.own.at_ 4 _ rfl
  go_wp2_with fail
  refine hcl.mono ?_
  rintro e w1 ⟨a', dc', rfl, HL, HN, HB⟩
  have hs1 := HB.size
  have N0 := M0.later HB
  have N1 := M1.later HB
  have P0 : MgB (w1.setCell ⟨w.heap.size, 4, none⟩ (.slice a' dl dc')) w.heap.size ⟨f, q, s, v, a', dl, dc', deps, text⟩ := Own.set N0 4 _
  have P1 : MgB (w1.setCell ⟨w.heap.size, 4, none⟩ (.slice a' dl dc')) (w.heap.size + 1) zeroG := Own.set_other N1 _ _ _ (by omega)
  have d4 := N0.own.at_ 4 _ rfl
  have f4 := N0.own.free 4
  have L1 := Lib.hid (show Below w.heap.size w (w1.setCell ⟨w.heap.size, 4, none⟩ (.slice a' dl dc')) from (W2.trans (HB.mono W2.size)).setCell (Nat.le_refl _) _)
  have LS : Hid (∀ W', (∀ k, k ≠ w.heap.size → k ≠ w.heap.size + 1 → W'.heap[k]? = w1.heap[k]?) → Lst (fun n : Int => [.int .u32 n]) 1 W' a' dl deps) := Lib.hid fun W' hW => by
    refine ⟨HL.size, fun h0 => ?_⟩
    obtain ⟨b, o, e, R⟩ := HL.src h0
    have hb := HN _ e
    simp only at hb
    refine ⟨b, o, e, fun i x hx c u hu => ?_⟩
    exact (World.cell?_of_block (w := w1) (hW b (by omega) (by omega))).trans (R i x hx c u hu)
  have HN2 : Hid (∀ ad, a' = some ad → w.heap.size ≤ ad.block) := Lib.hid fun ad hx => by have := HN ad hx; omega
  clear hcl HL HN HB M0 M1 c4 W2
  go_upto_region 2 with fail
  have hVb : ∀ k, k ≠ w.heap.size → (w1.setCell ⟨w.heap.size, 4, none⟩ (.slice a' dl dc')).heap[k]? = w1.heap[k]? := fun k hk => heap_setCell_other w1 _ k _ hk
  have FIN : Hid (CopyOf ((w1.setCell ⟨w.heap.size, 4, none⟩ (.slice a' dl dc')).setRow (w.heap.size + 1) (encG ⟨f, q, s, v, a', dl, dc', deps, text⟩).toArray) w.heap.size ⟨f, q, s, v, a, dl, dc, deps, text⟩ ⟨f, q, s, v, a', dl, dc', deps, text⟩) :=
    Lib.hid ⟨⟨a', dc', rfl⟩, LS.out _ fun k h1 h2 => (setRow_other _ _ _ _ h2).trans (hVb k h1), HN2.out⟩
  clear hVb LS HN2
  generalize (w1.setCell ⟨w.heap.size, 4, none⟩ (.slice a' dl dc')) = V at *
  go_wp2_with (first | (refine load_mg rfl (.tmp 1) rfl w.heap.size rfl P0 ?_) | (refine store_mg rfl (.tmp 2) (.tmp 7) rfl (w.heap.size + 1) ⟨f, q, s, v, a', dl, dc', deps, text⟩ rfl rfl P1 ?_))
  (try simp only [Exit.inBlock, Exit.then])
  exact bodyPost_ret (results_mg rfl _ _ (w.heap.size + 1) rfl (P1.row ⟨f, q, s, v, a', dl, dc', deps, text⟩)) rfl ⟨⟨f, q, s, v, a', dl, dc', deps, text⟩, rfl, FIN.out, belowRow10 L1.out _ (by omega) _⟩
end Go.Proofs.Ytcnfkjjfegjecaa
