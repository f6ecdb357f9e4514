/- Writing a packet's body: the builder that is embedded; numbers. -/
import Derived.Test.YtibngfpjdookkaaRdConf
import Derived.Test.YtibngfpjdookkaaPut
import Derived.Lib.Builder
import Derived.Lib.AppendStr
import Derived.Lib.Strings
import Derived.Lib.UnsafeStr
import Derived.Lib.Slices
import Derived.RegionTactic
import Derived.Laws.Externs
set_option linter.unusedVariables false
set_option linter.unusedSimpArgs false
namespace Go.Proofs.Ytibngfpjdookkaa
open Go.RowKit Go.Sort

/-- A writer in block g, that holds the bytes l; its own row stands at B or behind. -/
def Wr (B g : Nat) (w : World) (l : List UInt8) : Prop := ∃ p, (p = .pointer none ∨ p = .pointer (some ⟨g, 0, none⟩)) ∧ Lib.BuilderAt 85 5 B g p (cells8 l) w
/-- A row of bytes? -/
def Byt (w : World) (j : Nat) : Prop := ∃ cs fr, w.heap[j]? = some (.cells cs 5 fr)
/-- What a writer's method leaves: below B all, and of the rest all but the writer's block and rows of bytes. -/
structure Wrote (B g : Nat) (w w' : World) : Prop where
  below : Below B w w'
  keep : ∀ j, j < w.heap.size → j ≠ g → ¬ Byt w j → w'.heap[j]? = w.heap[j]?
theorem Wrote.refl (B g : Nat) (w : World) : Wrote B g w w := ⟨Below.refl _ _, fun _ _ _ _ => rfl⟩
theorem Wrote.trans {B g : Nat} {a b c : World} (h : Wrote B g a b) (k : Wrote B g b c) : Wrote B g a c :=
  ⟨h.below.trans k.below, fun j hj hg hb => (k.keep j (Nat.lt_of_lt_of_le hj h.below.size) hg (fun ⟨cs, fr, e⟩ => hb ⟨cs, fr, (h.keep j hj hg hb).symm.trans e⟩)).trans (h.keep j hj hg hb)⟩
theorem Wrote.grw {B g : Nat} {w w' : World} (h : Grw w w') (hB : B ≤ w.heap.size) : Wrote B g w w' := ⟨h.below.mono hB, fun j hj _ _ => h.below.block j hj⟩
theorem Wrote.of_below {B g : Nat} {w w' : World} (h : Below w.heap.size w w') (hB : B ≤ w.heap.size) : Wrote B g w w' := ⟨h.mono hB, fun j hj _ _ => h.block j hj⟩
/-- A block of another kind stays. -/
theorem Own.wrote {B g j : Nat} {w w' : World} {ty : TypeId} {cs : Array Value} (h : Own w j ty cs) (hw : Wrote B g w w') (hj : j ≠ g) (ht : ty ≠ 5) : Own w' j ty cs :=
  (hw.keep j h.lt hj (fun ⟨cs', fr, e⟩ => by rw [h.is] at e; simp only [Option.some.injEq, Obj.cells.injEq] at e; exact ht e.2.1)).trans h
theorem Wr.lt {B g : Nat} {w : World} {l : List UInt8} (h : Wr B g w l) : g < w.heap.size := by obtain ⟨p, _, h⟩ := h; exact h.lt
theorem Wr.ge {B g : Nat} {w : World} {l : List UInt8} (h : Wr B g w l) : B ≤ g := by obtain ⟨p, _, h⟩ := h; exact h.1
theorem Wr.le {B g : Nat} {w : World} {l : List UInt8} (h : Wr B g w l) : B ≤ w.heap.size := Nat.le_trans h.ge (Nat.le_of_lt h.lt)
theorem Wr.later {B g : Nat} {w w' : World} {l : List UInt8} (h : Wr B g w l) (hb : Below w.heap.size w w') : Wr B g w' l := by
  obtain ⟨p, hp, hB, v, hk, hown, hne⟩ := h
  have hlt : g < w.heap.size := (Array.getElem?_eq_some_iff.1 hk).1
  exact ⟨p, hp, hB, v, (hb.block g hlt).trans hk, hown.kept (row := none) ⟨hb.os, hb.tape, hb.output, hb.size, fun k hk _ => hb.block k hk⟩ (Classical.em _), hne⟩
theorem Wr.new (B : Nat) (w : World) (hB : B ≤ w.heap.size) : Wr B w.heap.size (w.alloc (.cells #[.pointer none, .slice none 0 0] 85)) [] :=
  ⟨_, .inl rfl, hB, .slice none 0 0, heap_alloc_new w _, World.ownsRow_nil _ _ _ _, by simp [Value.ownBlock]⟩
theorem Wr.used {B g : Nat} {w : World} {l : List UInt8} (h : Wr B g w l) : Lib.BuilderAt 85 5 B g (.pointer (some ⟨g, 0, none⟩)) (cells8 l) (w.setCell ⟨g, 0, none⟩ (.pointer (some ⟨g, 0, none⟩))) := by
  obtain ⟨p, _, h⟩ := h; exact h.used _

theorem builder_info : ∃ j, Try.prog.info? 83 = some j ∧ j.size = 2 := Option.map_eq_some_iff.1 (show (Try.prog.info? 83).map (·.size) = some 2 by kernel_rfl)
theorem writer_lies : liesAt Try.prog Try.prog.depth 85 (2 / Try.prog.cellsOf 85) 0 83 1 = true := by kernel_rfl

set_option maxHeartbeats 1000000 in
set_option maxRecDepth 100000 in
theorem check_used (g : Nat) (w : World) (h0 : w.cell? ⟨g, 0, none⟩ = some (.pointer (some ⟨g, 0, none⟩))) :
    Calls Try.prog 89 #[.pointer (some ⟨g, 0, none⟩)] w fun e w' => e = .returned (.tuple #[]) ∧ w = w' := by
  obtain ⟨j, hj, _⟩ := builder_info
  go_enter Try.func89, Try.ntmps89
  go_wp2
  rw [Lib.run_neq_ptr_same w _ Try.underlying81 hj]
  go_wp2
  go_end0
  exact ⟨rfl, rfl⟩
set_option maxHeartbeats 1000000 in
set_option maxRecDepth 100000 in
theorem check_fresh (g : Nat) (w : World) (h0 : w.cell? ⟨g, 0, none⟩ = some (.pointer none)) (hsh : w.shape? g = some (85, 2)) (hfz : w.frozen? ⟨g, 0, none⟩ = false) :
    Calls Try.prog 89 #[.pointer (some ⟨g, 0, none⟩)] w fun e w' => e = .returned (.tuple #[]) ∧ w.setCell ⟨g, 0, none⟩ (.pointer (some ⟨g, 0, none⟩)) = w' := by
  obtain ⟨j, hj, hjs⟩ := builder_info
  go_enter Try.func89, Try.ntmps89
  go_wp2
  rw [Lib.run_to_unsafe w ⟨g, 0, none⟩ Try.underlying81 Try.underlying136 hj (by rw [hjs]; decide) hsh (Nat.zero_lt_succ 1)]
  simp only [Result.andThen]
  rw [Oper.upon_value]
  go_wp2
  rw [run_callFunc_extern Try.func92 (by kernel_rfl) (by kernel_rfl) (by kernel_rfl) (e := Extern.AbiNoEscape.same) (by kernel_rfl)]
  rw [Lib.run_noEscape]
  simp only [Result.andThen]
  rw [Oper.upon_value]
  go_wp2
  rw [Lib.run_from_unsafe w ⟨g, 0, none⟩ Try.underlying136 Try.underlying81 hj hsh writer_lies]
  simp only [Result.andThen]
  rw [Oper.upon_value]
  go_wp2
  go_end0
  exact ⟨rfl, rfl⟩
theorem wrote_set {B g : Nat} {w : World} (hB : B ≤ g) (j : Nat) (v : Value) : Wrote B g w (w.setCell ⟨g, j, none⟩ v) :=
  ⟨(Below.refl B w).setCell (p := ⟨g, j, none⟩) hB v, fun k _ hk _ => heap_setCell_other w _ _ v (by show k ≠ g; exact hk)⟩
theorem check_any (B g : Nat) (l : List UInt8) (w : World) (h : Wr B g w l) :
    Calls Try.prog 89 #[.pointer (some ⟨g, 0, none⟩)] w fun e w' => e = .returned (.tuple #[]) ∧ Lib.BuilderAt 85 5 B g (.pointer (some ⟨g, 0, none⟩)) (cells8 l) w' ∧ Wrote B g w w' ∧ ∀ p v, p.block ≠ g → w.cell? p = some v → w'.cell? p = some v := by
  obtain ⟨p, hp | hp, h⟩ := h
  · subst hp
    refine (check_fresh g w h.cell0 h.shape h.frozen0).mono ?_
    rintro e w' ⟨rfl, rfl⟩
    exact ⟨rfl, h.used _, wrote_set h.1 _ _, fun p v hp hc => by rw [World.cell?_of_block (heap_setCell_other w ⟨g, 0, none⟩ p.block _ hp)]; exact hc⟩
  · subst hp
    refine (check_used g w h.cell0).mono ?_
    rintro e w' ⟨rfl, rfl⟩
    exact ⟨rfl, h, Wrote.refl _ _ _, fun _ _ _ hc => hc⟩

theorem own_byt {w : World} {B g : Nat} {v : Value} {n : Nat} {xs : List Value} (h : w.ownsRow B 5 1 v n xs) (hg : v.ownBlock = some g) : Byt w g := by
  rcases h.2 with ⟨rfl, _⟩ | ⟨g', cap, cur, rfl, _, hg', _⟩
  · cases hg
  · simp only [Value.ownBlock, Option.some.injEq] at hg
    subst hg
    exact ⟨_, _, hg'⟩

set_option maxHeartbeats 2000000 in
set_option maxRecDepth 100000 in
theorem wwrite (B g : Nat) (l : List UInt8) (w : World) (h : Wr B g w l) (ad : Addr) (m c : Nat) (news : List UInt8) (hm : news.length = m) (had : ad.block ≠ g) (hs : ∀ j v, (cells8 news)[j]? = some v → w.cell? (ad.add j) = some v) (hl : l.length + m ≤ 1099511627776) :
    Calls Try.prog 85 #[.pointer (some ⟨g, 0, none⟩), .slice (some ad) m c] w fun e w' => e = .returned (.tuple #[.int .i64 (m : Int), .nilIface]) ∧ Wr B g w' (l ++ news) ∧ Wrote B g w w' := by
  obtain ⟨i0, hi, hz0, hz1, hz2⟩ := info_parts Try.info8
  have hle := h.le
  have HS := Lib.hid hs
  clear hs
  go_enter Try.func85, Try.ntmps85
  go_wp2_with fail
  refine (check_any B g l w h).mono ?_
  rintro e w1 ⟨rfl, h1, hb1, hc1⟩
  obtain ⟨hB, v, hbk, hown, hne⟩ := h1
  have hl8 : (cells8 l).length = l.length := cells8_length l
  have hsrc := Lib.hid (fun j u (hj : (cells8 news)[j]? = some u) => hc1 (ad.add j) u (by unfold Addr.add; split <;> exact had) (HS.out j u hj))
  have c0 : w1.cell? ⟨g, 0, none⟩ = some (.pointer (some ⟨g, 0, none⟩)) := by rw [Lib.cell_of_heap hbk]; rfl
  have c1 : w1.cell? ⟨g, 1, none⟩ = some v := by rw [Lib.cell_of_heap hbk]; rfl
  clear hc1
  go_wp2_with (at_builtin; refine wpList_append_own _ rfl _ _ 51 rfl B 5 i0 (.int .u8 0) 1 1 Try.underlying51 hi hz0 hz1 hz2 rfl (by decide) _ _ _ rfl hown ad m c (cells8 news) rfl ?c0 hsrc.out (cells8_one news) ?c3 ?c4 ?c5 ?_)
  case c0 => rw [cells8_length, hm, Nat.mul_one]
  case c3 => unfold maxLen; omega
  case c4 => omega
  case c5 => have := hb1.below.size; omega
  intro v' w2 hown' hgrow _
  have hlt : g < w1.heap.size := (Array.getElem?_eq_some_iff.1 hbk).1
  have hb2 : w2.heap[g]? = some (.cells #[.pointer (some ⟨g, 0, none⟩), v] 85 (0, 0)) := by
    rw [hgrow.block g hlt (fun e => hne e.symm)]
    exact hbk
  have d0 : w2.cell? ⟨g, 0, none⟩ = some (.pointer (some ⟨g, 0, none⟩)) := by rw [Lib.cell_of_heap hb2]; rfl
  have d1 : w2.cell? ⟨g, 1, none⟩ = some v := by rw [Lib.cell_of_heap hb2]; rfl
  have f1 : w2.frozen? ⟨g, 1, none⟩ = false := Lib.frozen_of_heap hb2 1
  obtain ⟨ao, n', cap, rfl⟩ : ∃ ao n' cap, v' = .slice ao n' cap := by
    rcases hown'.2 with ⟨hv, _⟩ | ⟨g, cap, cur, hv, _⟩
    · exact ⟨_, _, _, hv⟩
    · exact ⟨_, _, _, hv⟩
  go_wp2
  go_ret2
  refine ⟨rfl, ⟨_, .inr rfl, Lib.BuilderAt.put (T := 85) (e := 5) hB hb2 (bs' := cells8 (l ++ news)) (by rw [cells8_append]; simpa [cells8_length, hm] using hown') (by decide)⟩, ?_⟩
  refine hb1.trans (Wrote.trans ⟨?_, ?_⟩ (wrote_set hB 1 _))
  · exact (Below.refl B w1).grown hgrow (by have := hb1.below.size; omega) (fun k hk => (hown.lt k hk).1)
  · exact fun j hj hg hb => hgrow.block j hj (fun e => hb (own_byt hown e.symm))
end Go.Proofs.Ytibngfpjdookkaa
