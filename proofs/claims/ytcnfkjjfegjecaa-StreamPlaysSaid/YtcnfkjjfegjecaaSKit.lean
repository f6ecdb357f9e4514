/- A stream in memory: its block, its map; what a call leaves of the rest; New, Count, Held, Lacks, holds. -/
import Derived.Test.YtcnfkjjfegjecaaSMap
import Derived.Deep.RegionHeld3
set_option linter.unusedVariables false
set_option linter.unusedSimpArgs false
namespace Go.Proofs.Ytcnfkjjfegjecaa
open Go.RowKit Go.Sort Go.Maps

/-- Nothing of what was there has turned but blocks g and b. -/
structure Mv (g b : Nat) (w w' : World) : Prop where
  os : w'.os = w.os
  tape : w'.tape = w.tape
  output : w'.output = w.output
  size : w.heap.size ≤ w'.heap.size
  block : ∀ k, k < w.heap.size → k ≠ g → k ≠ b → w'.heap[k]? = w.heap[k]?
theorem Mv.refl (g b : Nat) (w : World) : Mv g b w w := ⟨rfl, rfl, rfl, Nat.le_refl _, fun _ _ _ _ => rfl⟩
theorem Mv.trans {g b : Nat} {w w' w'' : World} (h : Mv g b w w') (k : Mv g b w' w'') : Mv g b w w'' :=
  ⟨k.os.trans h.os, k.tape.trans h.tape, k.output.trans h.output, Nat.le_trans h.size k.size, fun i hi h1 h2 => (k.block i (Nat.lt_of_lt_of_le hi h.size) h1 h2).trans (h.block i hi h1 h2)⟩
theorem Mv.of_below {g b : Nat} {w w' : World} (h : Below w.heap.size w w') : Mv g b w w' := ⟨h.os, h.tape, h.output, h.size, fun k hk _ _ => h.block k hk⟩
theorem Mv.grw {g b : Nat} {w w' : World} (h : Grw w w') : Mv g b w w' := .of_below h.below
/-- A step that turns a block that is new since w, or g, or b. -/
theorem Mv.grown {g b : Nat} {w w' w'' : World} {o : Option Nat} (h : Mv g b w w') (k : w'.grownBy w'' o) (ho : ∀ j, o = some j → w.heap.size ≤ j ∨ j = g ∨ j = b) : Mv g b w w'' :=
  ⟨k.os.trans h.os, k.tape.trans h.tape, k.output.trans h.output, Nat.le_trans h.size k.size, fun i hi h1 h2 => (k.block i (Nat.lt_of_lt_of_le hi h.size) (fun e => by
    rcases ho i e.symm with e1 | e1 | e1
    · omega
    · exact h1 e1
    · exact h2 e1)).trans (h.block i hi h1 h2)⟩
theorem Mv.below {g b : Nat} {w w' : World} (h : Mv g b w w') {B : Nat} (h0 : B ≤ w.heap.size) (h1 : B ≤ g) (h2 : B ≤ b) : Below B w w' :=
  ⟨h.os, h.tape, h.output, h.size, fun k hk => h.block k (by omega) (by omega) (by omega)⟩
theorem grown_set (w : World) (g j : Nat) (v : Value) : w.grownBy (w.setCell ⟨g, j, none⟩ v) (some g) :=
  ⟨rfl, rfl, rfl, by simp, fun k hk ho => heap_setCell_other w ⟨g, j, none⟩ k v (by intro e; apply ho; rw [e])⟩
theorem Mv.set {g b : Nat} {w w' : World} (h : Mv g b w w') (j : Nat) (v : Value) : Mv g b w (w'.setCell ⟨g, j, none⟩ v) := h.grown (grown_set w' g j v) (fun k e => by cases e; exact .inr (.inl rfl))
theorem Mv.turn {g b : Nat} {w w' w'' : World} (h : Mv g b w w') (k : w'.mapTurned w'' b) : Mv g b w w'' := h.grown k.grown (fun k e => by cases e; exact .inr (.inr rfl))
theorem Mv.drew {g b : Nat} {w w' : World} (h : Mv g b w w') : Mv g b w w'.drew := ⟨h.os, h.tape, h.output, h.size, h.block⟩
theorem Mv.alloc {g b : Nat} {w w' : World} (h : Mv g b w w') (o : Obj) : Mv g b w (w'.alloc o) := h.trans (.grw ((Grw.refl _).alloc o))

/-- A stream: its block g, its map in block b; its size, its count, what is held. -/
structure SmB (w : World) (g b : Nat) (sz c : Nat) (H : Nat → Option Mg) (n : Nat) : Prop where
  own : Own w g 56 #[.int .u32 (sz : Int), .int .u32 (c : Int), .map (some b)]
  map : MapAt w b H n
theorem SmB.ne {w : World} {g b sz c n : Nat} {H : Nat → Option Mg} (h : SmB w g b sz c H n) : g ≠ b := by
  intro e
  obtain ⟨D, ⟨es, clock, h1, _⟩, _⟩ := h.map
  have := h.own.is
  rw [e, h1] at this
  cases this
theorem SmB.lt {w : World} {g b sz c n : Nat} {H : Nat → Option Mg} (h : SmB w g b sz c H n) : g < w.heap.size ∧ b < w.heap.size := ⟨h.own.lt, h.map.lt⟩
theorem SmB.below {w w' : World} {g b sz c n : Nat} {H : Nat → Option Mg} (h : SmB w g b sz c H n) (hb : Below w.heap.size w w') : SmB w' g b sz c H n := ⟨h.own.below hb h.own.lt, h.map.below hb h.map.lt⟩
theorem SmB.grown {w w' : World} {g b sz c n : Nat} {H : Nat → Option Mg} {o : Option Nat} (h : SmB w g b sz c H n) (hg : w.grownBy w' o) (h1 : some g ≠ o) (h2 : some b ≠ o) : SmB w' g b sz c H n := ⟨h.own.grown hg h1, h.map.grown hg h2⟩
theorem SmB.drew {w : World} {g b sz c n : Nat} {H : Nat → Option Mg} (h : SmB w g b sz c H n) : SmB w.drew g b sz c H n := ⟨h.own.drew, h.map.drew⟩
theorem SmB.alloc {w : World} {g b sz c n : Nat} {H : Nat → Option Mg} (h : SmB w g b sz c H n) (o : Obj) : SmB (w.alloc o) g b sz c H n := h.below ((Grw.refl w).alloc o).below
/-- A stream beside. -/
theorem SmB.beside {w w' : World} {g b sz c n g' b' : Nat} {H : Nat → Option Mg} (h : SmB w g b sz c H n) (m : Mv g' b' w w') (h1 : g ≠ g') (h2 : g ≠ b') (h3 : b ≠ g') (h4 : b ≠ b') : SmB w' g b sz c H n := by
  refine ⟨(m.block g h.own.lt h1 h2).trans h.own, ?_⟩
  obtain ⟨D, ⟨es, clock, k1, r1⟩, r⟩ := h.map
  exact ⟨D, ⟨es, clock, (m.block b h.map.lt h3 h4).trans k1, r1⟩, r⟩
theorem st_size : (Try.prog.info? 56).map (·.size) = some 3 := by kernel_rfl
theorem msg_size : (Try.prog.info? 37).map (·.size) = some 6 := by kernel_rfl

/-- The size, as it counts. -/
def szN (n : Int) : Nat := (if n < 1 then 1 else if 64 < n then 64 else n).toNat
theorem szN_bounds (n : Int) : 1 ≤ szN n ∧ szN n ≤ 64 := by
  unfold szN
  split
  · decide
  · split
    · decide
    · omega

set_option maxHeartbeats 1000000 in
theorem scount {w : World} {g b sz c n : Nat} {H : Nat → Option Mg} (h : SmB w g b sz c H n) : Calls Try.prog 16 #[.pointer (some ⟨g, 0, none⟩)] w fun e w' => e = .returned (.int .u32 (c : Int)) ∧ w = w' := by
  have c1 := h.own.at_ 1 _ rfl
  clear h
  go_enter Try.func16, Try.ntmps16
  go_wp2
  go_ret
  exact ⟨rfl, rfl⟩
set_option maxHeartbeats 1000000 in
theorem sheld {w : World} {g b sz c n : Nat} {H : Nat → Option Mg} (h : SmB w g b sz c H n) : Calls Try.prog 17 #[.pointer (some ⟨g, 0, none⟩)] w fun e w' => e = .returned (.int .i64 (n : Int)) ∧ w = w' := by
  have c2 := h.own.at_ 2 _ rfl
  have hl := fun ty => h.map.len ty
  clear h
  go_enter Try.func17, Try.ntmps17
  go_wp2
  go_ret
  exact ⟨rfl, rfl⟩
def lackN (c u : Nat) : Nat := if c < u then c + 1 else 0
set_option maxHeartbeats 1000000 in
theorem slacks {w : World} {g b sz c n : Nat} {H : Nat → Option Mg} (h : SmB w g b sz c H n) (u : Nat) (hu : u < 4294967296) : Calls Try.prog 13 #[.pointer (some ⟨g, 0, none⟩), .int .u32 (u : Int)] w fun e w' => e = .returned (.tuple #[.int .u32 (lackN c u : Int), .bool (decide (c < u))]) ∧ w = w' := by
  have c1 := h.own.at_ 1 _ rfl
  clear h
  by_cases hc : c < u
  · have hr : lackN c u = c + 1 := if_pos hc
    have hd : decide (c < u) = true := decide_eq_true hc
    rw [hr, hd]
    clear hr hd
    have hz : ¬ ((u : Int) ≤ (c : Int)) := by omega
    go_enter Try.func13, Try.ntmps13
    go_wp2
    go_ret2
    exact ⟨by first | rfl | (congr; omega), rfl⟩
  · have hr : lackN c u = 0 := if_neg hc
    have hd : decide (c < u) = false := decide_eq_false hc
    rw [hr, hd]
    clear hr hd
    have hz : ((u : Int) ≤ (c : Int)) := by omega
    go_enter Try.func13, Try.ntmps13
    go_wp2
    go_ret2
    exact ⟨rfl, rfl⟩
set_option maxHeartbeats 2000000 in
theorem sholds {w : World} {g b sz c n : Nat} {H : Nat → Option Mg} (h : SmB w g b sz c H n) (k : Nat) (hk : k < 4294967296) : Calls Try.prog 20 #[.pointer (some ⟨g, 0, none⟩), .int .u32 (k : Int)] w fun e w' => e = .returned (.bool (H k).isSome) ∧ Grw w w' := by
  have c2 := h.own.at_ 2 _ rfl
  have hl := (h.map.look k hk).2
  unfold valG at hl
  generalize (H k).isSome = hb at *
  generalize (H k).getD zeroG = m at *
  obtain ⟨f, q, s, v, a, dl, dc, deps, text⟩ := m
  simp only [encG] at hl
  clear h
  go_enter Try.func20, Try.ntmps20
  go_wp2
  go_ret
  exact ⟨rfl, (Grw.refl _).alloc _⟩
set_option maxHeartbeats 2000000 in
theorem snew (n : Int) (w : World) (h0 : -9223372036854775808 ≤ n) (h1 : n ≤ 9223372036854775807) :
    Calls Try.prog 9 #[.int .i64 n] w fun e w' => e = .returned (.pointer (some ⟨w.heap.size + 1, 0, none⟩)) ∧ SmB w' (w.heap.size + 1) w.heap.size (szN n) 0 (fun _ => none) 0 ∧ Below w.heap.size w w' := by
  have hmm := @run_makeMap Try.prog
  obtain ⟨z, hz⟩ : ∃ z : Nat, z = szN n := ⟨_, rfl⟩
  have hb := szN_bounds n
  rw [← hz] at hb ⊢
  have hn : szN n = (if n < 1 then 1 else if 64 < n then 64 else n).toNat := rfl
  rw [← hz] at hn
  have fin : SmB ((w.alloc (.map #[] 0)).alloc (.cells #[.int .u32 (z : Int), .int .u32 0, .map (some w.heap.size)] 56)) (w.heap.size + 1) w.heap.size z 0 (fun _ => none) 0 := by
    have o1 := Own.new (w.alloc (.map #[] 0)) 56 #[.int .u32 (z : Int), .int .u32 0, .map (some w.heap.size)]
    rw [show (w.alloc (.map #[] 0)).heap.size = w.heap.size + 1 by simp] at o1
    exact ⟨o1, (MapAt.made w).alloc _⟩
  have FIN := Lib.hid fin
  have FB := Lib.hid (show Below w.heap.size w ((w.alloc (.map #[] 0)).alloc (.cells #[.int .u32 (z : Int), .int .u32 0, .map (some w.heap.size)] 56)) from (((Grw.refl w).alloc _).alloc _).below)
  clear fin
  by_cases k1 : n < 1
  · rw [if_pos k1] at hn
    obtain rfl : z = 1 := by omega
    clear hn hz hb
    go_enter Try.func9, Try.ntmps9
    go_wp2
    go_ret
    exact ⟨rfl, FIN.out, FB.out⟩
  · rw [if_neg k1] at hn
    by_cases k2 : 64 < n
    · rw [if_pos k2] at hn
      obtain rfl : z = 64 := by omega
      clear hn hz hb
      go_enter Try.func9, Try.ntmps9
      go_wp2
      go_ret
      exact ⟨rfl, FIN.out, FB.out⟩
    · rw [if_neg k2] at hn
      obtain rfl : n = (z : Int) := by omega
      clear hn hz
      go_enter Try.func9, Try.ntmps9
      go_wp2
      go_ret
      exact ⟨rfl, FIN.out, FB.out⟩
end Go.Proofs.Ytcnfkjjfegjecaa
