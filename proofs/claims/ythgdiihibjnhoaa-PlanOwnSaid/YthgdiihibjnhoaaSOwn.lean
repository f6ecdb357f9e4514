/- A message in memory of its own: slices.Clone of its Deps, own. -/
import Derived.Test.YthgdiihibjnhoaaSKit
import Derived.Lib.SliceRun
import Derived.Lib.Slices
import Derived.Lib.Walk
import Derived.Deep.Slices
import Derived.Deep.DeepCutAuto
import Derived.Laws.ResultCell
set_option linter.unusedVariables false
set_option linter.unusedSimpArgs false
namespace Go.Proofs.Ythgdiihibjnhoaa
open Go.RowKit Go.Sort Go.Maps

theorem add_lit10 (b o k : Nat) : (⟨b, o, none⟩ : Addr).add k = ⟨b, o + k, none⟩ := by cases k <;> simp [Addr.add]
theorem info32s : (Try.prog.info? 27).map (fun i => (i.zero, i.size, i.bytes)) = some (some (.int .u32 0), 1, 4) := by kernel_rfl
/-- x is m, but for where its Deps lie. -/
def Like (x m : Mg) : Prop := ∃ a dc, x = { m with a := a, dc := dc }
theorem Like.refl (m : Mg) : Like m m := ⟨m.a, m.dc, rfl⟩
theorem Like.q {x m : Mg} (h : Like x m) : x.q = m.q := by obtain ⟨a, dc, rfl⟩ := h; rfl
theorem Like.dl {x m : Mg} (h : Like x m) : x.dl = m.dl := by obtain ⟨a, dc, rfl⟩ := h; rfl
theorem Like.same {x m : Mg} (h : Like x m) : sameG x m = true := by
  obtain ⟨a, dc, rfl⟩ := h
  unfold sameG
  simp
theorem Like.trans {x y m : Mg} (h : Like x y) (k : Like y m) : Like x m := by
  obtain ⟨a, dc, rfl⟩ := h
  obtain ⟨a', dc', rfl⟩ := k
  exact ⟨a, dc, rfl⟩
/-- A copy of m whose Deps lie in blocks from B on. -/
structure CopyOf (w : World) (B : Nat) (m x : Mg) : Prop where
  like : Like x m
  deps : DpIn w x
  new : ∀ ad, x.a = some ad → B ≤ ad.block

def encW (n : Int) : List Value := [.int .u32 n]
set_option maxHeartbeats 2000000 in
set_option maxRecDepth 100000 in
theorem cloneW_some (ad : Addr) (n c : Nat) (l : List Int) (w : World) (hn : n ≤ 1048576) (hc : Lst (fun n : Int => [.int .u32 n]) 1 w (some ad) n l) :
    Calls Try.prog 22 #[.slice (some ad) n c] w fun e w' => ∃ a' dc', e = .returned (.slice a' n dc') ∧ Lst (fun n : Int => [.int .u32 n]) 1 w' a' n l ∧ (∀ x, a' = some x → w.heap.size ≤ x.block) ∧ Below w.heap.size w w' := by
  obtain ⟨i0, hi, hz0, hz1, hz2⟩ := info_parts info32s
  have q : ∀ (w : World) (a : Option Addr) (n c n' c' : Nat), (binOp .eql 22 (.slice a n c) (.slice none n' c')).run Try.prog w = .ok (.bool a.isNone) w := fun w a n c n' c' => Lib.run_eql_slice_nil w _ _ a n c n' c' Try.underlying22
  have HC := Lib.hid hc
  clear hc
  go_enter Try.func22, Try.ntmps22
  go_wp2_with (at_builtin; refine wpList_append_own _ rfl _ _ 22 rfl w.heap.size 27 i0 (.int .u32 0) 1 4 Try.underlying22 hi hz0 hz1 hz2 rfl (by decide) _ _ _ rfl (World.ownsRow_made w #[] 0 (Nat.le_refl _) (Nat.zero_le _) (by simp)) ad n c (flat encW l) rfl ?qc1 ?qc2 ?qc3 ?qc4 ?qc5 ?qc6 ?_)
  case qc1 => rw [flat_length encW 1 (fun _ => rfl), HC.out.size]
  case qc2 =>
    intro j u hj
    have hj' : j < l.length * 1 := by have := (List.getElem?_eq_some_iff.1 hj).1; rwa [flat_length encW 1 (fun _ => rfl)] at this
    obtain ⟨b, o, e, R⟩ := HC.out.src (by rw [← HC.out.size]; omega)
    injection e with e
    subst e
    rw [add_lit10]
    exact cell_later ((Grw.refl w).alloc _).below (RowAt.flat (enc := encW) (fun _ => rfl) R j u hj)
  case qc3 =>
    intro u hu
    unfold flat at hu
    obtain ⟨c, hc, huc⟩ := List.mem_flatten.1 hu
    obtain ⟨m, _, rfl⟩ := List.mem_map.1 hc
    simp only [encW, List.mem_singleton] at huc
    subst huc
    rfl
  case qc4 => rw [Nat.zero_add]; unfold maxLen; omega
  case qc5 => rw [Nat.zero_add]; omega
  case qc6 => simp
  intro v' w1 hown hgrow hnil
  have hown2 := own_eq (n' := n) (xs' := flat encW l) hown (by first | rfl | omega) (by first | rfl | exact List.nil_append _)
  obtain ⟨a', dc', rfl⟩ := own_form' hown2
  have HL := Lib.hid (own_lst' (enc := encW) (fun _ => rfl) HC.out.size hown2)
  have HN : Hid (∀ x, a' = some x → w.heap.size ≤ x.block) := Lib.hid fun x hx => (hown2.lt x.block (by rw [hx]; rfl)).1
  have HB := Lib.hid (((Below.refl _ w).alloc (Nat.le_refl _) (.cells #[] 27)).grown hgrow (by simp) (by intro k hk; simp [Value.ownBlock] at hk; omega))
  clear hown hown2 hgrow hnil
  go_wp2
  go_ret
  exact ⟨a', ⟨dc', rfl⟩, HL.out, HN.out, HB.out⟩
set_option maxHeartbeats 1000000 in
theorem cloneW_nil (n c : Nat) (w : World) : Calls Try.prog 22 #[.slice none n c] w fun e w' => e = .returned (.slice none 0 0) ∧ w = w' := by
  have q : ∀ (w : World) (a : Option Addr) (n c n' c' : Nat), (binOp .eql 22 (.slice a n c) (.slice none n' c')).run Try.prog w = .ok (.bool a.isNone) w := fun w a n c n' c' => Lib.run_eql_slice_nil w _ _ a n c n' c' Try.underlying22
  go_enter Try.func22, Try.ntmps22
  go_wp2
  go_ret
  exact ⟨rfl, rfl⟩
theorem cloneW (a : Option Addr) (n c : Nat) (l : List Int) (w : World) (hn : n ≤ 1048576) (hc : Lst (fun n : Int => [.int .u32 n]) 1 w a n l) :
    Calls Try.prog 22 #[.slice a n c] w fun e w' => ∃ a' dc', e = .returned (.slice a' n dc') ∧ Lst (fun n : Int => [.int .u32 n]) 1 w' a' n l ∧ (∀ x, a' = some x → w.heap.size ≤ x.block) ∧ Below w.heap.size w w' := by
  cases a with
  | some ad => exact cloneW_some ad n c l w hn hc
  | none =>
    have h0 : n = 0 := by
      rcases Nat.eq_zero_or_pos n with e | e
      · exact e
      · obtain ⟨_, _, e', _⟩ := hc.src e; cases e'
    subst h0
    refine (cloneW_nil 0 c w).mono ?_
    rintro e w' ⟨rfl, rfl⟩
    exact ⟨none, 0, rfl, hc, (fun x hx => by cases hx), Below.refl _ _⟩

/-- A message's block. -/
def MgB (w : World) (g : Nat) (m : Mg) : Prop := Own w g 35 (encG m).toArray
theorem MgB.own {w : World} {g : Nat} {m : Mg} (h : MgB w g m) : Own w g 35 #[.int .i64 m.f, .int .u32 m.q, .int .u64 m.s, .int .i64 m.v, .slice m.a m.dl m.dc, .string m.text] := h
theorem MgB.new (w : World) (m : Mg) : MgB (w.alloc (.cells #[.int .i64 m.f, .int .u32 m.q, .int .u64 m.s, .int .i64 m.v, .slice m.a m.dl m.dc, .string m.text] 35)) w.heap.size m := Own.new w _ _
theorem MgB.later {w w' : World} {g : Nat} {m : Mg} (h : MgB w g m) (hb : Below w.heap.size w w') : MgB w' g m := Own.below h hb (Own.lt h)
theorem MgB.row {w : World} {g : Nat} {m : Mg} (h : MgB w g m) (x : Mg) : MgB (w.setRow g (encG x).toArray) g x := setRow_heap _ _ _ _ _ _ h
theorem MgB.lt {w : World} {g : Nat} {m : Mg} (h : MgB w g m) : g < w.heap.size := Own.lt h
theorem mg_one (m : Mg) : (encG m).toArray.all (·.oneCell') = true := by simp [encG, Value.oneCell']
theorem store_mg {ops : Array Oper} {rest : List Oper} {o : Oper} {A : Act} {w : World} {Q : Exit → Act → World → Prop} (hgd : o.guard = none) (x y : Operand) (ho : o.op = .store 35 x y)
    (g : Nat) (m : Mg) (hx : A.eval x = .pointer (some ⟨g, 0, none⟩)) (hy : A.eval y = valG m) {m0 : Mg} (hg : MgB w g m0)
    (h : wpList Try.prog ops Q rest (A.put o.dst undef) (w.setRow g (encG m).toArray)) : wpList Try.prog ops Q (o :: rest) A w :=
  wpList_store_row hgd 35 x y ho g _ hx hy 35 _ hg msg_size rfl (mg_one m) h
theorem load_mg {ops : Array Oper} {rest : List Oper} {o : Oper} {A : Act} {w : World} {Q : Exit → Act → World → Prop} (hgd : o.guard = none) (x : Operand) (ho : o.op = .load 35 x)
    (g : Nat) (hx : A.eval x = .pointer (some ⟨g, 0, none⟩)) {m : Mg} (hg : MgB w g m)
    (h : wpList Try.prog ops Q rest (A.put o.dst (valG m)) w) : wpList Try.prog ops Q (o :: rest) A w :=
  wpList_load_row hgd 35 x ho g hx 35 _ _ _ hg Try.underlying35 rfl msg_size h
theorem results_mg {fn : Func} {p : Tmp} (h : fn.results = #[.cell p 35]) (tmps : Array Value) (w : World) (g : Nat) {m : Mg} (hp : tmps.getD p undef = .pointer (some ⟨g, 0, none⟩)) (hg : MgB w g m) :
    (results fn tmps).run Try.prog w = .ok (valG m) w :=
  results_cell_row h tmps w g 35 _ (0, 0) _ hp hg Try.underlying35 rfl msg_size
theorem belowRow10 {B : Nat} {a w : World} (h : Go.RowKit.Below B a w) (g : Nat) (hg : B ≤ g) (cs : Array Value) : Go.RowKit.Below B a (w.setRow g cs) :=
  ⟨h.os, h.tape, h.output, by rw [size_setRow]; exact h.size, fun k hk => (setRow_other _ _ _ _ (by omega)).trans (h.block k hk)⟩

end Go.Proofs.Ythgdiihibjnhoaa
