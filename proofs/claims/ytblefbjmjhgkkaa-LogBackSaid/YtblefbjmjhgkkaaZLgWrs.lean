/- Layer 19: writing: the builder that is embedded; texts, numbers; what a writer's method does. -/
import Derived.Test.YtblefbjmjhgkkaaZLgKits
import Derived.Test.YtblefbjmjhgkkaaZPut
import Derived.Lib.Builder
import Derived.Lib.AppendStr
import Derived.Lib.Strings
import Derived.Lib.UnsafeStr
import Derived.Lib.Slices
import Derived.RegionTactic
import Derived.Laws.Externs
import Derived.Deep.LoopGhost
import Derived.Test.YtblefbjmjhgkkaaZLgCatchs
set_option linter.unusedVariables false
set_option maxRecDepth 100000
set_option linter.unusedSimpArgs false
namespace Go.Proofs.Ytblefbjmjhgkkaa
open Go.RowKit Go.Sort

/-- A writer in block g, that holds the bytes l; its own row stands at B or behind. -/
def Wr (B g : Nat) (w : World) (l : List UInt8) : Prop := ∃ p, (p = .pointer none ∨ p = .pointer (some ⟨g, 0, none⟩)) ∧ Lib.BuilderAt 88 5 B g p (cells8 l) w
/-- A row of bytes? -/
def Byt (w : World) (j : Nat) : Prop := ∃ cs fr, w.heap[j]? = some (.cells cs 5 fr)
/-- What a writer's method leaves: below B all, and of the rest all but the writer's block and rows of bytes. -/
structure Wrote (B g : Nat) (w w' : World) : Prop where
  below : Below B w w'
  keep : ∀ j, j < w.heap.size → j ≠ g → ¬ Byt w j → w'.heap[j]? = w.heap[j]?
theorem Wrote.refl (B g : Nat) (w : World) : Wrote B g w w := ⟨Below.refl _ _, fun _ _ _ _ => rfl⟩
theorem Wrote.trans {B g : Nat} {a b c : World} (h : Wrote B g a b) (k : Wrote B g b c) : Wrote B g a c :=
  ⟨h.below.trans k.below, fun j hj hg hb => (k.keep j (Nat.lt_of_lt_of_le hj h.below.size) hg (fun ⟨cs, fr, e⟩ => hb ⟨cs, fr, (h.keep j hj hg hb).symm.trans e⟩)).trans (h.keep j hj hg hb)⟩
theorem Wrote.grw {B g : Nat} {w w' : World} (h : Grw w w') (hB : B ≤ w.heap.size) : Wrote B g w w' := ⟨h.below.mono hB, fun j hj _ _ => h.below.block j hj⟩
theorem Wrote.of_below {B g : Nat} {w w' : World} (h : Below w.heap.size w w') (hB : B ≤ w.heap.size) : Wrote B g w w' := ⟨h.mono hB, fun j hj _ _ => h.block j hj⟩
/-- A block of another kind stays. -/
theorem Own.wrote {B g j : Nat} {w w' : World} {ty : TypeId} {cs : Array Value} (h : Own w j ty cs) (hw : Wrote B g w w') (hj : j ≠ g) (ht : ty ≠ 5) : Own w' j ty cs :=
  (hw.keep j h.lt hj (fun ⟨cs', fr, e⟩ => by rw [h.is] at e; simp only [Option.some.injEq, Obj.cells.injEq] at e; exact ht e.2.1)).trans h
theorem Wr.lt {B g : Nat} {w : World} {l : List UInt8} (h : Wr B g w l) : g < w.heap.size := by obtain ⟨p, _, h⟩ := h; exact h.lt
theorem Wr.ge {B g : Nat} {w : World} {l : List UInt8} (h : Wr B g w l) : B ≤ g := by obtain ⟨p, _, h⟩ := h; exact h.1
theorem Wr.le {B g : Nat} {w : World} {l : List UInt8} (h : Wr B g w l) : B ≤ w.heap.size := Nat.le_trans h.ge (Nat.le_of_lt h.lt)
theorem Wr.later {B g : Nat} {w w' : World} {l : List UInt8} (h : Wr B g w l) (hb : Below w.heap.size w w') : Wr B g w' l := by
  obtain ⟨p, hp, hB, v, hk, hown, hne⟩ := h
  have hlt : g < w.heap.size := (Array.getElem?_eq_some_iff.1 hk).1
  exact ⟨p, hp, hB, v, (hb.block g hlt).trans hk, hown.kept (row := none) ⟨hb.os, hb.tape, hb.output, hb.size, fun k hk _ => hb.block k hk⟩ (Classical.em _), hne⟩
theorem Wr.new (B : Nat) (w : World) (hB : B ≤ w.heap.size) : Wr B w.heap.size (w.alloc (.cells #[.pointer none, .slice none 0 0] 88)) [] :=
  ⟨_, .inl rfl, hB, .slice none 0 0, heap_alloc_new w _, World.ownsRow_nil _ _ _ _, by simp [Value.ownBlock]⟩
theorem Wr.used {B g : Nat} {w : World} {l : List UInt8} (h : Wr B g w l) : Lib.BuilderAt 88 5 B g (.pointer (some ⟨g, 0, none⟩)) (cells8 l) (w.setCell ⟨g, 0, none⟩ (.pointer (some ⟨g, 0, none⟩))) := by
  obtain ⟨p, _, h⟩ := h; exact h.used _

theorem builder_info : ∃ j, Try.prog.info? 86 = some j ∧ j.size = 2 := Option.map_eq_some_iff.1 (show (Try.prog.info? 86).map (·.size) = some 2 by kernel_rfl)
theorem writer_lies : liesAt Try.prog Try.prog.depth 88 (2 / Try.prog.cellsOf 88) 0 86 1 = true := by kernel_rfl

set_option maxHeartbeats 1000000 in
set_option maxRecDepth 100000 in
theorem check_used (g : Nat) (w : World) (h0 : w.cell? ⟨g, 0, none⟩ = some (.pointer (some ⟨g, 0, none⟩))) :
    Calls Try.prog 71 #[.pointer (some ⟨g, 0, none⟩)] w fun e w' => e = .returned (.tuple #[]) ∧ w = w' := by
  obtain ⟨j, hj, _⟩ := builder_info
  go_enter Try.func71, Try.ntmps71
  go_wp2
  rw [Lib.run_neq_ptr_same w _ Try.underlying83 hj]
  go_wp2
  go_end0
  exact ⟨rfl, rfl⟩
set_option maxHeartbeats 1000000 in
set_option maxRecDepth 100000 in
theorem check_fresh (g : Nat) (w : World) (h0 : w.cell? ⟨g, 0, none⟩ = some (.pointer none)) (hsh : w.shape? g = some (88, 2)) (hfz : w.frozen? ⟨g, 0, none⟩ = false) :
    Calls Try.prog 71 #[.pointer (some ⟨g, 0, none⟩)] w fun e w' => e = .returned (.tuple #[]) ∧ w.setCell ⟨g, 0, none⟩ (.pointer (some ⟨g, 0, none⟩)) = w' := by
  obtain ⟨j, hj, hjs⟩ := builder_info
  go_enter Try.func71, Try.ntmps71
  go_wp2
  rw [Lib.run_to_unsafe w ⟨g, 0, none⟩ Try.underlying83 Try.underlying125 hj (by rw [hjs]; decide) hsh (Nat.zero_lt_succ 1)]
  simp only [Result.andThen]
  rw [Oper.upon_value]
  go_wp2
  rw [run_callFunc_extern Try.func73 (by kernel_rfl) (by kernel_rfl) (by kernel_rfl) (e := Extern.AbiNoEscape.same) (by kernel_rfl)]
  rw [Lib.run_noEscape]
  simp only [Result.andThen]
  rw [Oper.upon_value]
  go_wp2
  rw [Lib.run_from_unsafe w ⟨g, 0, none⟩ Try.underlying125 Try.underlying83 hj hsh writer_lies]
  simp only [Result.andThen]
  rw [Oper.upon_value]
  go_wp2
  go_end0
  exact ⟨rfl, rfl⟩
theorem wrote_set {B g : Nat} {w : World} (hB : B ≤ g) (j : Nat) (v : Value) : Wrote B g w (w.setCell ⟨g, j, none⟩ v) :=
  ⟨(Below.refl B w).setCell (p := ⟨g, j, none⟩) hB v, fun k _ hk _ => heap_setCell_other w _ _ v (by show k ≠ g; exact hk)⟩
theorem check_any (B g : Nat) (l : List UInt8) (w : World) (h : Wr B g w l) :
    Calls Try.prog 71 #[.pointer (some ⟨g, 0, none⟩)] w fun e w' => e = .returned (.tuple #[]) ∧ Lib.BuilderAt 88 5 B g (.pointer (some ⟨g, 0, none⟩)) (cells8 l) w' ∧ Wrote B g w w' ∧ ∀ p v, p.block ≠ g → w.cell? p = some v → w'.cell? p = some v := by
  obtain ⟨p, hp | hp, h⟩ := h
  · subst hp
    refine (check_fresh g w h.cell0 h.shape h.frozen0).mono ?_
    rintro e w' ⟨rfl, rfl⟩
    exact ⟨rfl, h.used _, wrote_set h.1 _ _, fun p v hp hc => by rw [World.cell?_of_block (heap_setCell_other w ⟨g, 0, none⟩ p.block _ hp)]; exact hc⟩
  · subst hp
    refine (check_used g w h.cell0).mono ?_
    rintro e w' ⟨rfl, rfl⟩
    exact ⟨rfl, h, Wrote.refl _ _ _, fun _ _ _ hc => hc⟩

theorem own_byt {w : World} {B g : Nat} {v : Value} {n : Nat} {xs : List Value} (h : w.ownsRow B 5 1 v n xs) (hg : v.ownBlock = some g) : Byt w g := by
  rcases h.2 with ⟨rfl, _⟩ | ⟨g', cap, cur, rfl, _, hg', _⟩
  · cases hg
  · simp only [Value.ownBlock, Option.some.injEq] at hg
    subst hg
    exact ⟨_, _, hg'⟩

set_option maxHeartbeats 2000000 in
set_option maxRecDepth 100000 in
theorem wwrite (B g : Nat) (l : List UInt8) (w : World) (h : Wr B g w l) (ad : Addr) (m c : Nat) (news : List UInt8) (hm : news.length = m) (had : ad.block ≠ g) (hs : ∀ j v, (cells8 news)[j]? = some v → w.cell? (ad.add j) = some v) (hl : l.length + m ≤ 1099511627776) :
    Calls Try.prog 69 #[.pointer (some ⟨g, 0, none⟩), .slice (some ad) m c] w fun e w' => e = .returned (.tuple #[.int .i64 (m : Int), .nilIface]) ∧ Wr B g w' (l ++ news) ∧ Wrote B g w w' := by
  obtain ⟨i0, hi, hz0, hz1, hz2⟩ := info_parts Try.info8
  have hle := h.le
  have HS := Lib.hid hs
  clear hs
  go_enter Try.func69, Try.ntmps69
  go_wp2_with fail
  refine (check_any B g l w h).mono ?_
  rintro e w1 ⟨rfl, h1, hb1, hc1⟩
  obtain ⟨hB, v, hbk, hown, hne⟩ := h1
  have hl8 : (cells8 l).length = l.length := cells8_length l
  have hsrc := Lib.hid (fun j u (hj : (cells8 news)[j]? = some u) => hc1 (ad.add j) u (by unfold Addr.add; split <;> exact had) (HS.out j u hj))
  have c0 : w1.cell? ⟨g, 0, none⟩ = some (.pointer (some ⟨g, 0, none⟩)) := by rw [Lib.cell_of_heap hbk]; rfl
  have c1 : w1.cell? ⟨g, 1, none⟩ = some v := by rw [Lib.cell_of_heap hbk]; rfl
  clear hc1
  go_wp2_with (at_builtin; refine wpList_append_own _ rfl _ _ 84 rfl B 5 i0 (.int .u8 0) 1 1 Try.underlying84 hi hz0 hz1 hz2 rfl (by decide) _ _ _ rfl hown ad m c (cells8 news) rfl ?c0 hsrc.out (cells8_one news) ?c3 ?c4 ?c5 ?_)
  case c0 => rw [cells8_length, hm, Nat.mul_one]
  case c3 => unfold maxLen; omega
  case c4 => omega
  case c5 => have := hb1.below.size; omega
  intro v' w2 hown' hgrow _
  have hlt : g < w1.heap.size := (Array.getElem?_eq_some_iff.1 hbk).1
  have hb2 : w2.heap[g]? = some (.cells #[.pointer (some ⟨g, 0, none⟩), v] 88 (0, 0)) := by
    rw [hgrow.block g hlt (fun e => hne e.symm)]
    exact hbk
  have d0 : w2.cell? ⟨g, 0, none⟩ = some (.pointer (some ⟨g, 0, none⟩)) := by rw [Lib.cell_of_heap hb2]; rfl
  have d1 : w2.cell? ⟨g, 1, none⟩ = some v := by rw [Lib.cell_of_heap hb2]; rfl
  have f1 : w2.frozen? ⟨g, 1, none⟩ = false := Lib.frozen_of_heap hb2 1
  obtain ⟨ao, n', cap, rfl⟩ : ∃ ao n' cap, v' = .slice ao n' cap := by
    rcases hown'.2 with ⟨hv, _⟩ | ⟨g, cap, cur, hv, _⟩
    · exact ⟨_, _, _, hv⟩
    · exact ⟨_, _, _, hv⟩
  go_wp2
  go_ret2
  refine ⟨rfl, ⟨_, .inr rfl, Lib.BuilderAt.put (T := 88) (e := 5) hB hb2 (bs' := cells8 (l ++ news)) (by rw [cells8_append]; simpa [cells8_length, hm] using hown') (by decide)⟩, ?_⟩
  refine hb1.trans (Wrote.trans ⟨?_, ?_⟩ (wrote_set hB 1 _))
  · exact (Below.refl B w1).grown hgrow (by have := hb1.below.size; omega) (fun k hk => (hown.lt k hk).1)
  · exact fun j hj hg hb => hgrow.block j hj (fun e => hb (own_byt hown e.symm))
set_option maxHeartbeats 2000000 in
set_option maxRecDepth 100000 in
theorem wwriteString (B g : Nat) (l : List UInt8) (w : World) (h : Wr B g w l) (s : ByteArray) (hl : l.length + s.size ≤ 1099511627776) :
    Calls Try.prog 59 #[.pointer (some ⟨g, 0, none⟩), .string s] w fun e w' => e = .returned (.tuple #[.int .i64 (s.size : Int), .nilIface]) ∧ Wr B g w' (l ++ s.data.toList) ∧ Wrote B g w w' := by
  obtain ⟨i0, hi, hz0, hz1, hz2⟩ := info_parts Try.info8
  have hle := h.le
  go_enter Try.func59, Try.ntmps59
  go_wp2_with fail
  refine (check_any B g l w h).mono ?_
  rintro e w1 ⟨rfl, h1, hb1, hc1⟩
  obtain ⟨hB, v, hbk, hown, hne⟩ := h1
  have hl8 : (cells8 l).length = l.length := cells8_length l
  have c0 : w1.cell? ⟨g, 0, none⟩ = some (.pointer (some ⟨g, 0, none⟩)) := by rw [Lib.cell_of_heap hbk]; rfl
  have c1 : w1.cell? ⟨g, 1, none⟩ = some v := by rw [Lib.cell_of_heap hbk]; rfl
  clear hc1
  go_wp2_with (at_builtin; refine Lib.wpList_append_own_string _ rfl _ _ 84 9 rfl B 5 i0 Try.underlying84 Try.underlying9 hi hz0 hz1 hz2 _ _ _ rfl hown s rfl ?c3 ?c4 ?c5 ?_)
  case c3 => unfold maxLen; omega
  case c4 => omega
  case c5 => have := hb1.below.size; omega
  intro v' w2 hown' hgrow _
  have hlt : g < w1.heap.size := (Array.getElem?_eq_some_iff.1 hbk).1
  have hb2 : w2.heap[g]? = some (.cells #[.pointer (some ⟨g, 0, none⟩), v] 88 (0, 0)) := by
    rw [hgrow.block g hlt (fun e => hne e.symm)]
    exact hbk
  have d0 : w2.cell? ⟨g, 0, none⟩ = some (.pointer (some ⟨g, 0, none⟩)) := by rw [Lib.cell_of_heap hb2]; rfl
  have d1 : w2.cell? ⟨g, 1, none⟩ = some v := by rw [Lib.cell_of_heap hb2]; rfl
  have f1 : w2.frozen? ⟨g, 1, none⟩ = false := Lib.frozen_of_heap hb2 1
  obtain ⟨ao, n', cap, rfl⟩ : ∃ ao n' cap, v' = .slice ao n' cap := by
    rcases hown'.2 with ⟨hv, _⟩ | ⟨g, cap, cur, hv, _⟩
    · exact ⟨_, _, _, hv⟩
    · exact ⟨_, _, _, hv⟩
  go_wp2
  go_ret2
  have e8 : cells8 (l ++ s.data.toList) = cells8 l ++ Lib.strCells s := cells8_append _ _
  refine ⟨rfl, ⟨_, .inr rfl, Lib.BuilderAt.put (T := 88) (e := 5) hB hb2 (bs' := cells8 (l ++ s.data.toList)) (by rw [e8]; simpa [Lib.strCells_length, cells8_length] using hown') (by decide)⟩, ?_⟩
  refine hb1.trans (Wrote.trans ⟨?_, ?_⟩ (wrote_set hB 1 _))
  · exact (Below.refl B w1).grown hgrow (by have := hb1.below.size; omega) (fun k hk => (hown.lt k hk).1)
  · exact fun j hj hg hb => hgrow.block j hj (fun e => hb (own_byt hown e.symm))

theorem own_src {w : World} {base g n cap : Nat} {L : List UInt8} (h : w.ownsRow base 5 1 (.slice (some ⟨g, 0, none⟩) n cap) n (cells8 L)) : ∀ j u, (cells8 L)[j]? = some u → w.cell? ((⟨g, 0, none⟩ : Addr).add j) = some u := by
  rcases Src.own h with ⟨h, _⟩ | ⟨ad, e, hs⟩
  · cases h
  · cases e; exact hs

set_option maxHeartbeats 2000000 in
theorem wput (B g : Nat) (l : List UInt8) (w : World) (h : Wr B g w l) (v n : Nat) (k : Int) (hk : wid k = n) (hn : 0 < n) (hn8 : n ≤ 8) (hv : v < 18446744073709551616) (hl : l.length ≤ 1099511000000) :
    Calls Try.prog 56 #[.pointer (some ⟨g, 0, none⟩), .int .u64 (v : Int), .int .i64 k] w fun e w' => e = .returned (.tuple #[]) ∧ Wr B g w' (l ++ pb n v) ∧ Wrote B g w w' := by
  have hle := h.le
  have h' : Wr B g w.drew l := h
  have hlt : w.heap.size ≠ g := by have := h.lt; omega
  go_enter Try.func56, Try.ntmps56
  go_wp2
  go_region_held2 (fun _ => True) (trivial)
    (first
      | (go_at_call 70; (refine (put_len w.heap.size none [] 0 0 v k n w.drew rfl (.inl ⟨rfl, rfl⟩) rfl (by decide) hv hk hn8).mono ?_); rintro e w1 ⟨rfl, hown, hb1⟩; (have HW := wwrite B g l w1 (h'.later hb1) ⟨w.heap.size, 0, none⟩ n n (pb n v) (pb_length n v) hlt (own_src hown) (by omega)); clear hown)
      | (go_at_call 69; (refine HW.mono ?_); rintro e w2 ⟨rfl, H2, K2⟩))
  go_wp2
  go_end0
  exact ⟨rfl, H2, (Wrote.grw (Grw.refl w).drew hle).trans ((Wrote.of_below (w := w.drew) hb1 hle).trans K2)⟩
/-- What a writer's method does: it puts those bytes; or gives up by that error. -/
def WP (c : Nat) (put : List UInt8) (B g : Nat) (l : List UInt8) (w : World) (e : Ending) (w' : World) : Prop :=
  (c = 0 ∧ e = .returned (.tuple #[]) ∧ Wr B g w' (l ++ put) ∧ Wrote B g w w') ∨ (c ≠ 0 ∧ e = .panicked (pan c) ∧ Wrote B g w w')
/-- What the packet's lists stand in: a world below B, of which nothing has turned. -/
structure Und (B : Nat) (w0 w : World) : Prop where
  size : w0.heap.size = B
  below : Below B w0 w
theorem Und.later {B g : Nat} {w0 w w' : World} (h : Und B w0 w) (k : Wrote B g w w') : Und B w0 w' := ⟨h.size, h.below.trans k.below⟩
theorem Und.alloc {B : Nat} {w0 w : World} (h : Und B w0 w) (hB : B ≤ w.heap.size) (o : Obj) : Und B w0 (w.alloc o) := ⟨h.size, h.below.alloc hB o⟩
theorem wrote_alloc {B g : Nat} {w : World} (hB : B ≤ w.heap.size) (o : Obj) : Wrote B g w (w.alloc o) := Wrote.grw ((Grw.refl w).alloc o) hB

set_option maxHeartbeats 1000000 in
theorem wsmall (B g : Nat) (l : List UInt8) (w : World) (h : Wr B g w l) (v lo : Int) (n m c : Nat) (k : Int) (hk : wid k = n) (hn : 0 < n) (hn8 : n ≤ 8) (h0 : 0 ≤ lo) (hm : m < 65536) (hc : c ≠ 0) (hl : l.length ≤ 1099511000000) :
    Calls Try.prog 58 #[.pointer (some ⟨g, 0, none⟩), .int .i64 v, .int .i64 k, .int .i64 lo, .int .i64 (m : Int), .int .i64 (c : Int)] w (WP (if lo ≤ v ∧ v ≤ m then 0 else c) (pb n v.toNat) B g l w) := by
  by_cases hv : lo ≤ v ∧ v ≤ m
  · rw [if_pos hv]
    obtain ⟨u, rfl⟩ := Int.eq_ofNat_of_zero_le (show 0 ≤ v by omega)
    have hu2 : (u : Int) < 65536 := by omega
    have hv1 := Lib.hid hv.1
    have hv2 := Lib.hid hv.2
    clear hv
    go_enter Try.func58, Try.ntmps58
    go_wp2_with fail
    refine (within_yes (u : Int) lo m c _ hv1.out hv2.out).mono ?_
    rintro e w1 ⟨rfl, rfl⟩
    go_wp2_with fail
    refine (wput B g l _ h u n k hk hn hn8 (by omega) hl).mono ?_
    rintro e w1 ⟨rfl, H1, K1⟩
    go_wp2
    go_end0
    exact .inl ⟨rfl, rfl, H1, K1⟩
  · rw [if_neg hv]
    have HV := Lib.hid hv
    clear hv
    go_enter Try.func58, Try.ntmps58
    go_wp2_with fail
    refine (within_no v lo m c _ (by have := HV.out; omega)).mono ?_
    rintro e w1 ⟨rfl, rfl⟩
    exact ⟨rfl, .inr ⟨hc, rfl, Wrote.refl _ _ _⟩⟩
set_option maxHeartbeats 1000000 in
set_option maxRecDepth 100000 in
theorem wstring (B g : Nat) (l : List UInt8) (w : World) (h : Wr B g w l) (h0 : l ≠ []) :
    Calls Try.prog 37 #[.pointer (some ⟨g, 0, none⟩)] w fun e w' => e = .returned (.string ⟨l.toArray⟩) ∧ Below B w w' := by
  obtain ⟨p, _, hB, v, hbk, hown, hne⟩ := h
  have hl0 : l.length ≠ 0 := by simpa using h0
  rw [cells8_length] at hown
  obtain ⟨r, cap, cur, rfl, hbg, hg, hnc, hcm, hcs, htake⟩ : ∃ r cap cur, v = .slice (some ⟨r, 0, none⟩) l.length cap ∧ B ≤ r ∧ w.heap[r]? = some (.cells cur 5 (0, 0)) ∧ l.length ≤ cap ∧ cap ≤ maxLen ∧ cur.size = cap * 1 ∧ cur.toList.take (l.length * 1) = cells8 l := by
    rcases hown.2 with ⟨_, hz⟩ | ⟨r, cap, cur, hv, q⟩
    · exact absurd hz hl0
    · exact ⟨r, cap, cur, hv, q⟩
  have c1 : w.drew.cell? ⟨g, 1, none⟩ = some (.slice (some ⟨r, 0, none⟩) l.length cap) := by
    have : w.drew.heap[g]? = some (.cells #[p, .slice (some ⟨r, 0, none⟩) l.length cap] 88 (0, 0)) := hbk
    rw [Lib.cell_of_heap this]; rfl
  have hSD : (Builtin.unsafeSliceData_ #[84] 107 #[.slice (some ⟨r, 0, none⟩) l.length cap]).run Try.prog w.drew = .ok (.pointer (some ⟨r, 0, none⟩)) w.drew :=
    Lib.run_unsafeSliceData_row _ _ _ _ _ _ (by omega)
  have hUS : (Builtin.unsafeString_ #[107, 3] 9 #[.pointer (some ⟨r, 0, none⟩), .int .i64 l.length]).run Try.prog w.drew = .ok (.string ⟨l.toArray⟩) (w.drew.freeze ⟨r, 0, none⟩ l.length) := by
    refine Lib.run_unsafeString_row w.drew 107 3 9 5 Try.underlying107 (by kernel_rfl) r cur.size (by have hg' : w.drew.heap[r]? = some (.cells cur 5 (0, 0)) := hg; simp [World.shape?, hg']) l h0 (by omega) (by unfold maxLen at hcm; omega) ?_
    intro j x hx
    have := hown.cells (g := r) rfl j (.int .u8 x.toNat) (by simp [cells8, cell8, hx])
    exact this
  go_enter Try.func37, Try.ntmps37
  go_wp2
  go_region
  all_goals (go_wp2; go_ret; exact ⟨rfl, Lib.below_freeze (Below.drew (Below.refl B w)) (p := ⟨r, 0, none⟩) hbg _⟩)

set_option maxHeartbeats 1000000 in
set_option maxRecDepth 100000 in
theorem wlen (B g : Nat) (l : List UInt8) (w : World) (h : Wr B g w l) :
    Calls Try.prog 40 #[.pointer (some ⟨g, 0, none⟩)] w fun e w' => e = .returned (.int .i64 (l.length : Int)) ∧ w = w' := by
  obtain ⟨p, _, hB, v, hbk, hown, hne⟩ := h
  rw [cells8_length] at hown
  obtain ⟨ao, cap, rfl⟩ := own_form' hown
  have c1 : w.cell? ⟨g, 1, none⟩ = some (.slice ao l.length cap) := by rw [Lib.cell_of_heap hbk]; rfl
  generalize l.length = n at *
  go_enter Try.func40, Try.ntmps40
  go_wp2
  go_ret
  exact ⟨rfl, rfl⟩
end Go.Proofs.Ytblefbjmjhgkkaa

/- Layer 19: writing a view, a record. -/
set_option linter.unusedVariables false
set_option maxRecDepth 100000
set_option linter.unusedSimpArgs false
namespace Go.Proofs.Ytblefbjmjhgkkaa
open Go.RowKit Go.Sort

theorem errP_if (r : Int) : (if 0 ≤ r ∧ r ≤ ((63 : Nat) : Int) then 0 else 1) = errP r := rfl
set_option maxHeartbeats 2000000 in
theorem wview (B g : Nat) (l : List UInt8) (w : World) (h : Wr B g w l) (v : Vw) (hv : v.ok) (hl : l.length ≤ 1099510000000) :
    Calls Try.prog 61 #[.pointer (some ⟨g, 0, none⟩), .agg #[.int .u64 (v.n : Int), .int .u64 (v.e : Int), .int .i64 v.r, .int .u64 (v.m : Int)]] w (WP (errVw v) (putVw v) B g l w) := by
  obtain ⟨vn, ve, vr, vm⟩ := v
  have hn : vn < 18446744073709551616 := hv.n
  have he : ve < 18446744073709551616 := hv.e
  have hm : vm < 18446744073709551616 := hv.m
  clear hv
  have hle := h.le
  have hlt := h.lt
  have O0 := Own.new w 28 #[.int .u64 (vn : Int), .int .u64 (ve : Int), .int .i64 vr, .int .u64 (vm : Int)]
  have H0 := h.later ((Grw.refl w).alloc (.cells #[.int .u64 (vn : Int), .int .u64 (ve : Int), .int .i64 vr, .int .u64 (vm : Int)] 28)).below
  have K0 := wrote_alloc (B := B) (g := g) hle (.cells #[.int .u64 (vn : Int), .int .u64 (ve : Int), .int .i64 vr, .int .u64 (vm : Int)] 28)
  have HPV := Lib.hid (show putVw ⟨vn, ve, vr, vm⟩ = pb 8 vn ++ (pb 8 ve ++ (putP vr ++ pb 8 vm)) from rfl)
  have HEV := Lib.hid (show errVw ⟨vn, ve, vr, vm⟩ = errP vr from rfl)
  go_enter Try.func61, Try.ntmps61
  go_wp2_with fail
  refine (wput B g l _ H0 vn 8 8 (by decide) (by decide) (by decide) hn (by omega)).mono ?_
  rintro e w1 ⟨rfl, H1, K1⟩
  have O1 := O0.wrote K1 (by omega) (by decide)
  have K1 := K0.trans K1
  have c1 := O1.at_ 1 _ rfl
  clear O0 H0 K0
  go_wp2_with fail
  refine (wput B g _ _ H1 ve 8 8 (by decide) (by decide) (by decide) he (by rw [List.length_append, pb_length]; omega)).mono ?_
  rintro e w2 ⟨rfl, H2, K2⟩
  have O2 := O1.wrote K2 (by omega) (by decide)
  have K2 := K1.trans K2
  have c2 := O2.at_ 2 _ rfl
  clear O1 H1 K1 c1
  go_wp2_with fail
  refine (wsmall B g _ _ H2 vr 0 1 63 1 1 (by decide) (by decide) (by decide) (by decide) (by decide) (by decide) (by rw [List.length_append, List.length_append, pb_length, pb_length]; omega)).mono ?_
  rintro e w3 (⟨hc, rfl, H3, K3⟩ | ⟨hc, rfl, K3⟩)
  rotate_left
  · rw [errP_if] at hc ⊢
    exact ⟨rfl, .inr ⟨by rw [HEV.out]; exact hc, by rw [HEV.out], K2.trans K3⟩⟩
  rw [errP_if] at hc
  have HC := Lib.hid hc
  have O3 := O2.wrote K3 (by omega) (by decide)
  have K3 := K2.trans K3
  have c3 := O3.at_ 3 _ rfl
  clear O2 H2 K2 c2 hc
  go_wp2_with fail
  refine (wput B g _ _ H3 vm 8 8 (by decide) (by decide) (by decide) hm (by rw [List.length_append, List.length_append, List.length_append, pb_length, pb_length, pb_length]; omega)).mono ?_
  rintro e w4 ⟨rfl, H4, K4⟩
  have K4 := K3.trans K4
  clear O3 H3 K3 c3
  go_wp2
  go_end0
  refine .inl ⟨by rw [HEV.out]; exact HC.out, rfl, ?_, K4⟩
  rw [HPV.out]
  rw [List.append_assoc, List.append_assoc, List.append_assoc] at H4
  exact H4

/-- A row of views below a bound, in whatever world stands on it. -/
theorem vcells {w0 : World} {a : Option Addr} {n : Nat} {L : List Vw} (h : VwL w0 a n L) {j : Nat} (hj : j < n) {B : Nat} (hB : w0.heap.size = B) :
    ∃ b o v, a = some ⟨b, o, none⟩ ∧ L[j]? = some v ∧ v.ok ∧ ∀ w, Below B w0 w → ∀ (c : Nat) (u : Value), (encV v)[c]? = some u → w.cell? ⟨b, o + j * 4 + c, none⟩ = some u := by
  obtain ⟨b, o, v, e, hv, hr, hok⟩ := h.row hj
  refine ⟨b, o, v, e, hv, hok, fun w hb c u hu => ?_⟩
  have := hr c u hu
  have hlt : b < B := by rw [← hB]; exact World.block_lt_of_cell? _ _ this
  exact (hb.cell (p := ⟨b, o + j * 4 + c, none⟩) hlt).trans this
/-- k views were written; what is wrong with all hangs on the rest. -/
structure SomeV (xs : List Vw) (k : Nat) : Prop where
  err : errVws xs = errVws (xs.drop k)
theorem SomeV.zero (xs : List Vw) : SomeV xs 0 := ⟨by rw [List.drop_zero]⟩
theorem SomeV.bad {xs : List Vw} {k : Nat} {x : Vw} (h : SomeV xs k) (hk : xs[k]? = some x) (he : errVw x ≠ 0) : errVws xs = errVw x := by
  obtain ⟨hl, rfl⟩ := List.getElem?_eq_some_iff.1 hk
  rw [h.err, List.drop_eq_getElem_cons hl]
  exact orN_left he
theorem SomeV.step {xs : List Vw} {k : Nat} {x : Vw} (h : SomeV xs k) (hk : xs[k]? = some x) (he : errVw x = 0) : SomeV xs (k + 1) := by
  obtain ⟨hl, rfl⟩ := List.getElem?_eq_some_iff.1 hk
  refine ⟨?_⟩
  rw [h.err, List.drop_eq_getElem_cons hl]
  exact orN_right he
theorem SomeV.done {xs : List Vw} {k : Nat} (h : SomeV xs k) (hk : xs.length ≤ k) : errVws xs = 0 := by rw [h.err, List.drop_of_length_le hk]; rfl
theorem putVws_take {xs : List Vw} {k : Nat} {x : Vw} (hk : xs[k]? = some x) : putVws (xs.take (k + 1)) = putVws (xs.take k) ++ putVw x := by rw [take_snocV hk, putVws_snoc]
set_option maxHeartbeats 4000000 in
theorem wrecord (B g : Nat) (l : List UInt8) (w0 w : World) (h : Wr B g w l) (hu : Und B w0 w) (x : Rcv) (hx : RcIn w0 x) (hxk : x.k ≤ 1099511627776) (hl : l.length ≤ 1099500000000) :
    Calls Try.prog 57 #[.pointer (some ⟨g, 0, none⟩), .agg #[.int .u64 (x.p.last.n : Int), .int .u64 (x.p.last.e : Int), .int .i64 x.p.last.r, .int .u64 (x.p.last.m : Int), .slice x.a x.k x.c]] w (WP (errRec x.p) (putRec x.p) B g l w) := by
  have HLEN := Lib.hid hx.len
  have HX := Lib.hid hx.pend
  have hok := hx.last
  have HVW := Lib.hid (fun W l (hW : Wr B g W l) (hl : l.length ≤ 1099510000000) => wview B g l W hW x.p.last hok hl)
  obtain ⟨⟨⟨vn, ve, vr, vm⟩, L⟩, a, n, c⟩ := x
  clear hx hok
  simp only at HLEN HX HVW hxk ⊢
  have hle := h.le
  have hlt := h.lt
  have O0 := Own.new w 31 #[.int .u64 (vn : Int), .int .u64 (ve : Int), .int .i64 vr, .int .u64 (vm : Int), .slice a n c]
  have H0 := h.later ((Grw.refl w).alloc (.cells #[.int .u64 (vn : Int), .int .u64 (ve : Int), .int .i64 vr, .int .u64 (vm : Int), .slice a n c] 31)).below
  have K0 := wrote_alloc (B := B) (g := g) hle (.cells #[.int .u64 (vn : Int), .int .u64 (ve : Int), .int .i64 vr, .int .u64 (vm : Int), .slice a n c] 31)
  have HER := Lib.hid (show errRec ⟨⟨vn, ve, vr, vm⟩, L⟩ = orN (errVw ⟨vn, ve, vr, vm⟩) (orN (if 32 < L.length then 3 else 0) (errVws L)) from rfl)
  have HPR := Lib.hid (show putRec ⟨⟨vn, ve, vr, vm⟩, L⟩ = putVw ⟨vn, ve, vr, vm⟩ ++ (pb 1 L.length ++ putVws L) from rfl)
  have HPL := putVw_length ⟨vn, ve, vr, vm⟩
  generalize errVw ⟨vn, ve, vr, vm⟩ = ev at *
  generalize putVw ⟨vn, ve, vr, vm⟩ = pv at *
  generalize errRec ⟨⟨vn, ve, vr, vm⟩, L⟩ = er at *
  generalize putRec ⟨⟨vn, ve, vr, vm⟩, L⟩ = pr at *
  have HU := Lib.hid hu
  clear hu h
  go_enter Try.func57, Try.ntmps57
  go_wp2_with fail
  refine (HVW.out _ l H0 (by omega)).mono ?_
  rintro e w1 (⟨hc, rfl, H1, K1⟩ | ⟨hc, rfl, K1⟩)
  rotate_left
  · have he : er = ev := by rw [HER.out]; exact orN_left hc
    exact ⟨rfl, .inr ⟨by rw [he]; exact hc, by rw [he], K0.trans K1⟩⟩
  have HER1 := Lib.hid (show er = orN (if 32 < L.length then 3 else 0) (errVws L) by rw [HER.out]; exact orN_right hc)
  have O1 := O0.wrote K1 (by omega) (by decide)
  have K1 := K0.trans K1
  have c4 := O1.at_ 4 _ rfl
  clear O0 H0 K0 hc HER HVW
  go_wp2_with fail
  refine (wsmall B g _ _ H1 (n : Int) 0 1 32 3 1 (by decide) (by decide) (by decide) (by decide) (by decide) (by decide) (by rw [List.length_append, HPL]; omega)).mono ?_
  rintro e w2 (⟨hc, rfl, H2, K2⟩ | ⟨hc, rfl, K2⟩)
  rotate_left
  · have hn32 : ¬ n ≤ 32 := fun hn => hc (if_pos ⟨by omega, by omega⟩)
    have he : er = 3 := by rw [HER1.out, HLEN.out, if_pos (by omega)]; rfl
    have hq : (if (0 : Int) ≤ (n : Int) ∧ (n : Int) ≤ ((32 : Nat) : Int) then 0 else 3) = 3 := if_neg (by omega)
    rw [hq]
    exact ⟨rfl, .inr ⟨by rw [he]; decide, by rw [he], K1.trans K2⟩⟩
  have hn32 : n ≤ 32 := by
    by_cases hn : n ≤ 32
    · exact hn
    · rw [if_neg (by omega)] at hc; cases hc
  have HER2 := Lib.hid (show er = errVws L by rw [HER1.out, HLEN.out, if_neg (by omega)]; rfl)
  have O2 := O1.wrote K2 (by omega) (by decide)
  have K2 := K1.trans K2
  have c4 := O2.at_ 4 _ rfl
  rw [Int.toNat_natCast] at H2
  clear O1 H1 K1 hc HER1
  go_wp2_with fail
  have HN : (n : Int) ≤ 32 := by omega
  clear O2 c4
  go_loopw [18] (fun si wr => ∃ k : Nat, k ≤ n ∧ si = .int .i64 (k : Int) ∧ Wr B g wr (l ++ pv ++ pb 1 n ++ putVws (L.take k)) ∧ Wrote B g w wr ∧ SomeV L k) (fun si _ => n - (intOf si).toNat)
  case atStart => exact ⟨0, Nat.zero_le _, rfl, by rw [List.take_zero, putVws, List.append_nil]; exact H2, K2, SomeV.zero _⟩
  case round =>
    clear H2 K2
    obtain ⟨k, hk, rfl, H, K, hS⟩ := hrel
    by_cases hlt : k < n
    · obtain ⟨b, o, v, rfl, hv, hvok, hcell⟩ := vcells HX.out hlt HU.out.size
      have hcw := hcell wr (HU.out.below.trans K.below)
      have HP := Lib.hid (putVws_take hv)
      have HB := Lib.hid (fun he => hS.bad hv he)
      have HSt := Lib.hid (fun he => hS.step hv he)
      have hLN : (l ++ pv ++ pb 1 n ++ putVws (L.take k)).length ≤ 1099510000000 := by
        rw [List.length_append, List.length_append, List.length_append, pb_length, HPL, putVws_length, List.length_take]
        have := HLEN.out
        omega
      have hle := H.le
      have hgl := H.lt
      have HVV := Lib.hid (fun W (hW : Wr B g W _) => wview B g _ W hW v hvok hLN)
      obtain ⟨xn, xe, xr, xm⟩ := v
      have c0 := hcw 0 _ rfl
      have c1 := hcw 1 _ rfl
      have c2 := hcw 2 _ rfl
      have c3 := hcw 3 _ rfl
      simp only [Nat.add_zero] at c0 c1 c2 c3
      clear hcell hcw hS hv hvok hLN
      go_wp2_with fail
      clear c0 c1 c2 c3
      refine (HVV.out _ (H.later ((Grw.refl wr).alloc _).below)).mono ?_
      rintro e w3 (⟨hc, rfl, H3, K3⟩ | ⟨hc, rfl, K3⟩)
      case inr =>
        have he := HB.out hc
        exact ⟨rfl, .inr ⟨by rw [HER2.out, he]; exact hc, by rw [HER2.out, he], (K.trans (wrote_alloc hle _)).trans K3⟩⟩
      have hS2 := HSt.out hc
      have K4 := (K.trans (wrote_alloc hle _)).trans K3
      clear hc K3
      go_wp2_with fail
      go_roundw
      case rel => exact ⟨k + 1, by omega, by go_num, by rw [HP.out, ← List.append_assoc]; exact H3, K4, hS2⟩
      case measure => simp [intOf]; omega
    · obtain rfl : k = n := by omega
      have HD := Lib.hid (hS.done (by rw [HLEN.out]; exact Nat.le_refl _))
      have HT := Lib.hid (show L.take k = L from List.take_of_length_le (by rw [HLEN.out]; exact Nat.le_refl _))
      clear hS
      go_wp2
      go_end0
      exact .inl ⟨by rw [HER2.out]; exact HD.out, rfl, by (rw [HPR.out, HLEN.out]; rw [HT.out] at H; simpa only [List.append_assoc] using H), K⟩
end Go.Proofs.Ytblefbjmjhgkkaa

/- Layer 19: writing a stable record, an item. (Written by wip/gen_lgwritem.py.) -/
set_option linter.unusedVariables false
set_option maxRecDepth 100000
set_option linter.unusedSimpArgs false
namespace Go.Proofs.Ytblefbjmjhgkkaa
open Go.RowKit Go.Sort

/-- A record anywhere below a bound is one that is written so. -/
theorem wrec' (B g : Nat) (l : List UInt8) (w0 w : World) (h : Wr B g w l) (hu : Und B w0 w) (rn re : Nat) (rr : Int) (rm : Nat) (L : List Vw) (a : Option Addr) (k c : Nat) (hx : RcIn w0 ⟨⟨⟨rn, re, rr, rm⟩, L⟩, a, k, c⟩) (hxk : k ≤ 1099511627776) (hl : l.length ≤ 1099500000000) :
    Calls Try.prog 57 #[.pointer (some ⟨g, 0, none⟩), .agg #[.int .u64 (rn : Int), .int .u64 (re : Int), .int .i64 rr, .int .u64 (rm : Int), .slice a k c]] w (WP (errRec ⟨⟨rn, re, rr, rm⟩, L⟩) (putRec ⟨⟨rn, re, rr, rm⟩, L⟩) B g l w) :=
  wrecord B g l w0 w h hu ⟨⟨⟨rn, re, rr, rm⟩, L⟩, a, k, c⟩ hx hxk hl
set_option maxHeartbeats 4000000 in
theorem wstable (B g : Nat) (l : List UInt8) (w0 w : World) (h : Wr B g w l) (hu : Und B w0 w) (x : Stb) (a : Option Addr) (k c : Nat) (hx : RcIn w0 ⟨x.r, a, k, c⟩) (hep : x.ep < 18446744073709551616) (hinc : x.inc < 4294967296) (hxk : k ≤ 1099511627776) (hl : l.length ≤ 1099400000000) :
    Calls Try.prog 36 #[.pointer (some ⟨g, 0, none⟩), .agg (encS x a k c).toArray] w (WP (errRec x.r) (putS x) B g l w) := by
  obtain ⟨ep, ic, ⟨⟨rn, re, rr, rm⟩, L⟩⟩ := x
  simp only at hx hep hinc ⊢
  have HPS := Lib.hid (show putS ⟨ep, ic, ⟨⟨rn, re, rr, rm⟩, L⟩⟩ = pb 1 1 ++ (pb 8 ep ++ (pb 4 ic ++ putRec ⟨⟨rn, re, rr, rm⟩, L⟩)) from rfl)
  have HW := Lib.hid (fun W l (hW : Wr B g W l) (hU : Und B w0 W) (hl : l.length ≤ 1099500000000) => wrec' B g l w0 W hW hU rn re rr rm L a k c hx hxk hl)
  generalize errRec ⟨⟨rn, re, rr, rm⟩, L⟩ = er at *
  generalize putRec ⟨⟨rn, re, rr, rm⟩, L⟩ = pr at *
  generalize putS ⟨ep, ic, ⟨⟨rn, re, rr, rm⟩, L⟩⟩ = ps at *
  have hle := h.le
  have hlt := h.lt
  have HU := Lib.hid hu
  show Calls Try.prog 36 #[.pointer (some ⟨g, 0, none⟩), .agg #[.int .u64 (ep : Int), .int .u32 (ic : Int), .int .u64 (rn : Int), .int .u64 (re : Int), .int .i64 rr, .int .u64 (rm : Int), .slice a k c]] w (WP er ps B g l w)
  have O0 := Own.new w 33 #[.int .u64 (ep : Int), .int .u32 (ic : Int), .int .u64 (rn : Int), .int .u64 (re : Int), .int .i64 rr, .int .u64 (rm : Int), .slice a k c]
  have H0 := h.later ((Grw.refl w).alloc (.cells #[.int .u64 (ep : Int), .int .u32 (ic : Int), .int .u64 (rn : Int), .int .u64 (re : Int), .int .i64 rr, .int .u64 (rm : Int), .slice a k c] 33)).below
  have K0 := wrote_alloc (B := B) (g := g) hle (.cells #[.int .u64 (ep : Int), .int .u32 (ic : Int), .int .u64 (rn : Int), .int .u64 (re : Int), .int .i64 rr, .int .u64 (rm : Int), .slice a k c] 33)
  clear hx hxk h hu
  go_enter Try.func36, Try.ntmps36
  go_wp2_with fail
  refine (wput B g l _ H0 1 1 1 (by decide) (by decide) (by decide) (by decide) (by omega)).mono ?_
  rintro e w1 ⟨rfl, H1, K1⟩
  have O1 := O0.wrote K1 (by omega) (by decide)
  have K1 := K0.trans K1
  have c0 := O1.at_ 0 _ rfl
  clear O0 H0 K0
  go_wp2_with fail
  refine (wput B g _ _ H1 ep 8 8 (by decide) (by decide) (by decide) hep (by rw [List.length_append, pb_length]; omega)).mono ?_
  rintro e w2 ⟨rfl, H2, K2⟩
  have O2 := O1.wrote K2 (by omega) (by decide)
  have K2 := K1.trans K2
  have c1 := O2.at_ 1 _ rfl
  clear O1 H1 K1 c0
  go_wp2_with fail
  refine (wput B g _ _ H2 ic 4 4 (by decide) (by decide) (by decide) (by omega) (by rw [List.length_append, List.length_append, pb_length, pb_length]; omega)).mono ?_
  rintro e w3 ⟨rfl, H3, K3⟩
  have O3 := O2.wrote K3 (by omega) (by decide)
  have K3 := K2.trans K3
  have c2 := O3.at_ 2 _ rfl
  have c3 := O3.at_ 3 _ rfl
  have c4 := O3.at_ 4 _ rfl
  have c5 := O3.at_ 5 _ rfl
  have c6 := O3.at_ 6 _ rfl
  clear O2 H2 K2 c1
  go_wp2_with fail
  refine (HW.out _ _ H3 (HU.out.later K3) (by rw [List.length_append, List.length_append, List.length_append, pb_length, pb_length, pb_length]; omega)).mono ?_
  rintro e w4 (⟨hc, rfl, H4, K4⟩ | ⟨hc, rfl, K4⟩)
  rotate_left
  · exact ⟨rfl, .inr ⟨hc, rfl, K3.trans K4⟩⟩
  have HC := Lib.hid hc
  have K4 := K3.trans K4
  clear O3 H3 K3 c2 c3 c4 c5 c6 hc HW
  go_wp2
  go_end0
  refine .inl ⟨HC.out, rfl, ?_, K4⟩
  rw [HPS.out]
  simpa only [List.append_assoc] using H4
set_option maxHeartbeats 1000000 in
theorem wflags (B g : Nat) (l : List UInt8) (w : World) (h : Wr B g w l) (p q : Bool) (hl : l.length ≤ 1099511000000) :
    Calls Try.prog 60 #[.pointer (some ⟨g, 0, none⟩), .bool p, .bool q] w fun e w' => e = .returned (.tuple #[]) ∧ Wr B g w' (l ++ pb 1 (flagsN p q)) ∧ Wrote B g w w' := by
  have HW := fun (n : Nat) (hn : n < 256) => wput B g l _ h n 1 1 (by decide) (by decide) (by decide) (by omega) hl
  have H0 := HW 0 (by decide)
  have H1 := HW 1 (by decide)
  have H2 := HW 2 (by decide)
  have H3 := HW 3 (by decide)
  clear HW
  cases p <;> cases q
  · clear H1 H2 H3
    go_enter Try.func60, Try.ntmps60
    go_wp2_with fail
    refine H0.mono ?_
    rintro e w1 ⟨rfl, A1, K1⟩
    go_wp2
    go_end0
    exact ⟨rfl, A1, K1⟩
  · clear H0 H1 H3
    go_enter Try.func60, Try.ntmps60
    go_wp2_with fail
    refine H2.mono ?_
    rintro e w1 ⟨rfl, A1, K1⟩
    go_wp2
    go_end0
    exact ⟨rfl, A1, K1⟩
  · clear H0 H2 H3
    go_enter Try.func60, Try.ntmps60
    go_wp2_with fail
    refine H1.mono ?_
    rintro e w1 ⟨rfl, A1, K1⟩
    go_wp2
    go_end0
    exact ⟨rfl, A1, K1⟩
  · clear H0 H1 H2
    go_enter Try.func60, Try.ntmps60
    go_wp2_with fail
    refine H3.mono ?_
    rintro e w1 ⟨rfl, A1, K1⟩
    go_wp2
    go_end0
    exact ⟨rfl, A1, K1⟩
set_option maxHeartbeats 4000000 in
theorem witem_1 (B g : Nat) (l : List UInt8) (w0 w : World) (h : Wr B g w l) (hu : Und B w0 w) (xd : List UInt8) (T : ByteArray) (xi xh : Nat) (xa xb : Bool) (rn re : Nat) (rr : Int) (rm : Nat) (L : List Vw) (a : Option Addr) (pk pc : Nat) (vn ve : Nat) (vr : Int) (vm xn : Nat) (xx xt : Int)
    (hT : T.data.toList = xd) (hTs : T.size ≤ 1000000) (hok : ((⟨1, xd, xi, xh, xa, xb, ⟨⟨rn, re, rr, rm⟩, L⟩, ⟨vn, ve, vr, vm⟩, xn, xx, xt⟩ : Itm)).ok) (hx : RcIn w0 ⟨⟨⟨rn, re, rr, rm⟩, L⟩, a, pk, pc⟩) (hxk : pk ≤ 1099511627776) (hl : l.length ≤ 1099300000000) :
    Calls Try.prog 39 #[.pointer (some ⟨g, 0, none⟩), .agg #[.int .i64 1, .string T, .int .u32 (xi : Int), .int .u64 (xh : Int), .bool xa, .bool xb, .int .u64 (rn : Int), .int .u64 (re : Int), .int .i64 rr, .int .u64 (rm : Int), .slice a pk pc, .int .u64 (vn : Int), .int .u64 (ve : Int), .int .i64 vr, .int .u64 (vm : Int), .int .u64 (xn : Int), .int .i64 xx, .int .i64 xt]] w (WP (errI (⟨1, xd, xi, xh, xa, xb, ⟨⟨rn, re, rr, rm⟩, L⟩, ⟨vn, ve, vr, vm⟩, xn, xx, xt⟩ : Itm)) (putI (⟨1, xd, xi, xh, xa, xb, ⟨⟨rn, re, rr, rm⟩, L⟩, ⟨vn, ve, vr, vm⟩, xn, xx, xt⟩ : Itm)) B g l w) := by
  have h1 := hok.inc
  have h2 := hok.holds
  have h3 := hok.view
  have h4 := hok.num
  simp only at h1 h2 h3 h4
  have hTl : T.data.toList.length = T.size := by rw [Array.length_toList]; rfl
  have HEI := Lib.hid (show errI (⟨1, xd, xi, xh, xa, xb, ⟨⟨rn, re, rr, rm⟩, L⟩, ⟨vn, ve, vr, vm⟩, xn, xx, xt⟩ : Itm) = 0 from rfl)
  have HPI := Lib.hid (show putI (⟨1, xd, xi, xh, xa, xb, ⟨⟨rn, re, rr, rm⟩, L⟩, ⟨vn, ve, vr, vm⟩, xn, xx, xt⟩ : Itm) = pb 1 1 ++ xd from rfl)
  generalize errI (⟨1, xd, xi, xh, xa, xb, ⟨⟨rn, re, rr, rm⟩, L⟩, ⟨vn, ve, vr, vm⟩, xn, xx, xt⟩ : Itm) = ei at *
  generalize putI (⟨1, xd, xi, xh, xa, xb, ⟨⟨rn, re, rr, rm⟩, L⟩, ⟨vn, ve, vr, vm⟩, xn, xx, xt⟩ : Itm) = pi at *
  have hle := h.le
  have hlt := h.lt
  have HU := Lib.hid hu
  have HT := Lib.hid hT
  have HTl := Lib.hid hTl
  have HW := Lib.hid (fun W l (hW : Wr B g W l) (hU : Und B w0 W) (hl : l.length ≤ 1099500000000) => wrec' B g l w0 W hW hU rn re rr rm L a pk pc hx hxk hl)
  have O0 := Own.new w 43 #[.int .i64 1, .string T, .int .u32 (xi : Int), .int .u64 (xh : Int), .bool xa, .bool xb, .int .u64 (rn : Int), .int .u64 (re : Int), .int .i64 rr, .int .u64 (rm : Int), .slice a pk pc, .int .u64 (vn : Int), .int .u64 (ve : Int), .int .i64 vr, .int .u64 (vm : Int), .int .u64 (xn : Int), .int .i64 xx, .int .i64 xt]
  have H0 := h.later ((Grw.refl w).alloc (.cells #[.int .i64 1, .string T, .int .u32 (xi : Int), .int .u64 (xh : Int), .bool xa, .bool xb, .int .u64 (rn : Int), .int .u64 (re : Int), .int .i64 rr, .int .u64 (rm : Int), .slice a pk pc, .int .u64 (vn : Int), .int .u64 (ve : Int), .int .i64 vr, .int .u64 (vm : Int), .int .u64 (xn : Int), .int .i64 xx, .int .i64 xt] 43)).below
  have K0 := wrote_alloc (B := B) (g := g) hle (.cells #[.int .i64 1, .string T, .int .u32 (xi : Int), .int .u64 (xh : Int), .bool xa, .bool xb, .int .u64 (rn : Int), .int .u64 (re : Int), .int .i64 rr, .int .u64 (rm : Int), .slice a pk pc, .int .u64 (vn : Int), .int .u64 (ve : Int), .int .i64 vr, .int .u64 (vm : Int), .int .u64 (xn : Int), .int .i64 xx, .int .i64 xt] 43)
  have c0 := O0.at_ 0 _ rfl
  clear hx hxk h hu hT hTl hok
  generalize hw0 : w.alloc (.cells #[.int .i64 1, .string T, .int .u32 (xi : Int), .int .u64 (xh : Int), .bool xa, .bool xb, .int .u64 (rn : Int), .int .u64 (re : Int), .int .i64 rr, .int .u64 (rm : Int), .slice a pk pc, .int .u64 (vn : Int), .int .u64 (ve : Int), .int .i64 vr, .int .u64 (vm : Int), .int .u64 (xn : Int), .int .i64 xx, .int .i64 xt] 43) = W0 at *
  go_enter Try.func39, Try.ntmps39
  go_upto_region 1 with fail
  try rw [hw0]
  clear hw0
  go_wp2_with fail
  refine (wsmall B g _ _ H0 1 1 1 4 10 1 (by decide) (by decide) (by decide) (by decide) (by decide) (by decide) (by omega)).mono ?_
  rintro e w1 (⟨hc, rfl, H1, K1⟩ | ⟨hc, rfl, K1⟩)
  rotate_left
  · exact absurd (if_pos ⟨by decide, by decide⟩) hc
  have O1 := O0.wrote K1 (by omega) (by decide)
  have K1 := K0.trans K1
  clear O0 H0 K0 c0 hc
  have c0 := O1.at_ 0 _ rfl
  rw [show pb 1 (1 : Int).toNat = pb 1 1 from rfl] at H1
  have c1 := O1.at_ 1 _ rfl
  have HS := Lib.hid (fun W (hW : Wr B g W (l ++ pb 1 1)) => wwriteString B g _ W hW T (by simp only [List.length_append, pb_length, putVw_length, HTl.out]; omega))
  have H1d := Wr.later H1 (Grw.refl w1).drew.below
  have K1d := K1.trans (Wrote.grw (B := B) (g := g) (Grw.refl w1).drew (by have := H1.le; omega))
  go_upto_region 4 with fail
  go_region_held2 (fun w' => w'.cell? ⟨w.heap.size, 1, none⟩ = some (.string T)) (first | (with_reducible exact d1) | go_keep)
    (first | (go_at_call 59; (with_reducible refine (HS.out _ H1d).mono ?_); rintro e w9 ⟨rfl, H9, K9⟩; (have d1 : w9.cell? ⟨w.heap.size, 1, none⟩ = some (.string T) := (O1.drew.wrote K9 (by omega) (by decide)).at_ 1 _ rfl)))
  have K9 := K1d.trans K9
  clear O1 H1 H1d K1d K1 HS c1 d1
  go_wp2
  go_end0
  refine .inl ⟨HEI.out, rfl, ?_, K9⟩
  rw [HPI.out, ← HT.out]
  simpa only [List.append_assoc] using H9
set_option maxHeartbeats 4000000 in
theorem witem_2 (B g : Nat) (l : List UInt8) (w0 w : World) (h : Wr B g w l) (hu : Und B w0 w) (xd : List UInt8) (T : ByteArray) (xi xh : Nat) (xa xb : Bool) (rn re : Nat) (rr : Int) (rm : Nat) (L : List Vw) (a : Option Addr) (pk pc : Nat) (vn ve : Nat) (vr : Int) (vm xn : Nat) (xx xt : Int)
    (hT : T.data.toList = xd) (hTs : T.size ≤ 1000000) (hok : ((⟨2, xd, xi, xh, xa, xb, ⟨⟨rn, re, rr, rm⟩, L⟩, ⟨vn, ve, vr, vm⟩, xn, xx, xt⟩ : Itm)).ok) (hx : RcIn w0 ⟨⟨⟨rn, re, rr, rm⟩, L⟩, a, pk, pc⟩) (hxk : pk ≤ 1099511627776) (hl : l.length ≤ 1099300000000) :
    Calls Try.prog 39 #[.pointer (some ⟨g, 0, none⟩), .agg #[.int .i64 2, .string T, .int .u32 (xi : Int), .int .u64 (xh : Int), .bool xa, .bool xb, .int .u64 (rn : Int), .int .u64 (re : Int), .int .i64 rr, .int .u64 (rm : Int), .slice a pk pc, .int .u64 (vn : Int), .int .u64 (ve : Int), .int .i64 vr, .int .u64 (vm : Int), .int .u64 (xn : Int), .int .i64 xx, .int .i64 xt]] w (WP (errI (⟨2, xd, xi, xh, xa, xb, ⟨⟨rn, re, rr, rm⟩, L⟩, ⟨vn, ve, vr, vm⟩, xn, xx, xt⟩ : Itm)) (putI (⟨2, xd, xi, xh, xa, xb, ⟨⟨rn, re, rr, rm⟩, L⟩, ⟨vn, ve, vr, vm⟩, xn, xx, xt⟩ : Itm)) B g l w) := by
  have h1 := hok.inc
  have h2 := hok.holds
  have h3 := hok.view
  have h4 := hok.num
  simp only at h1 h2 h3 h4
  have hTl : T.data.toList.length = T.size := by rw [Array.length_toList]; rfl
  have HEI := Lib.hid (show errI (⟨2, xd, xi, xh, xa, xb, ⟨⟨rn, re, rr, rm⟩, L⟩, ⟨vn, ve, vr, vm⟩, xn, xx, xt⟩ : Itm) = errRec ⟨⟨rn, re, rr, rm⟩, L⟩ from rfl)
  have HPI := Lib.hid (show putI (⟨2, xd, xi, xh, xa, xb, ⟨⟨rn, re, rr, rm⟩, L⟩, ⟨vn, ve, vr, vm⟩, xn, xx, xt⟩ : Itm) = pb 1 2 ++ (pb 4 xi ++ (pb 8 xh ++ (pb 1 (flagsN xa xb) ++ putRec ⟨⟨rn, re, rr, rm⟩, L⟩))) from rfl)
  generalize errI (⟨2, xd, xi, xh, xa, xb, ⟨⟨rn, re, rr, rm⟩, L⟩, ⟨vn, ve, vr, vm⟩, xn, xx, xt⟩ : Itm) = ei at *
  generalize putI (⟨2, xd, xi, xh, xa, xb, ⟨⟨rn, re, rr, rm⟩, L⟩, ⟨vn, ve, vr, vm⟩, xn, xx, xt⟩ : Itm) = pi at *
  have hle := h.le
  have hlt := h.lt
  have HU := Lib.hid hu
  have HT := Lib.hid hT
  have HTl := Lib.hid hTl
  have HW := Lib.hid (fun W l (hW : Wr B g W l) (hU : Und B w0 W) (hl : l.length ≤ 1099500000000) => wrec' B g l w0 W hW hU rn re rr rm L a pk pc hx hxk hl)
  have O0 := Own.new w 43 #[.int .i64 2, .string T, .int .u32 (xi : Int), .int .u64 (xh : Int), .bool xa, .bool xb, .int .u64 (rn : Int), .int .u64 (re : Int), .int .i64 rr, .int .u64 (rm : Int), .slice a pk pc, .int .u64 (vn : Int), .int .u64 (ve : Int), .int .i64 vr, .int .u64 (vm : Int), .int .u64 (xn : Int), .int .i64 xx, .int .i64 xt]
  have H0 := h.later ((Grw.refl w).alloc (.cells #[.int .i64 2, .string T, .int .u32 (xi : Int), .int .u64 (xh : Int), .bool xa, .bool xb, .int .u64 (rn : Int), .int .u64 (re : Int), .int .i64 rr, .int .u64 (rm : Int), .slice a pk pc, .int .u64 (vn : Int), .int .u64 (ve : Int), .int .i64 vr, .int .u64 (vm : Int), .int .u64 (xn : Int), .int .i64 xx, .int .i64 xt] 43)).below
  have K0 := wrote_alloc (B := B) (g := g) hle (.cells #[.int .i64 2, .string T, .int .u32 (xi : Int), .int .u64 (xh : Int), .bool xa, .bool xb, .int .u64 (rn : Int), .int .u64 (re : Int), .int .i64 rr, .int .u64 (rm : Int), .slice a pk pc, .int .u64 (vn : Int), .int .u64 (ve : Int), .int .i64 vr, .int .u64 (vm : Int), .int .u64 (xn : Int), .int .i64 xx, .int .i64 xt] 43)
  have c0 := O0.at_ 0 _ rfl
  clear hx hxk h hu hT hTl hok
  generalize hw0 : w.alloc (.cells #[.int .i64 2, .string T, .int .u32 (xi : Int), .int .u64 (xh : Int), .bool xa, .bool xb, .int .u64 (rn : Int), .int .u64 (re : Int), .int .i64 rr, .int .u64 (rm : Int), .slice a pk pc, .int .u64 (vn : Int), .int .u64 (ve : Int), .int .i64 vr, .int .u64 (vm : Int), .int .u64 (xn : Int), .int .i64 xx, .int .i64 xt] 43) = W0 at *
  go_enter Try.func39, Try.ntmps39
  go_upto_region 1 with fail
  try rw [hw0]
  clear hw0
  go_wp2_with fail
  refine (wsmall B g _ _ H0 2 1 1 4 10 1 (by decide) (by decide) (by decide) (by decide) (by decide) (by decide) (by omega)).mono ?_
  rintro e w1 (⟨hc, rfl, H1, K1⟩ | ⟨hc, rfl, K1⟩)
  rotate_left
  · exact absurd (if_pos ⟨by decide, by decide⟩) hc
  have O1 := O0.wrote K1 (by omega) (by decide)
  have K1 := K0.trans K1
  clear O0 H0 K0 c0 hc
  have c0 := O1.at_ 0 _ rfl
  rw [show pb 1 (2 : Int).toNat = pb 1 2 from rfl] at H1
  have c2 := O1.at_ 2 _ rfl
  go_wp2_with fail
  refine (wput B g _ _ H1 xi 4 4 (by decide) (by decide) (by decide) (by omega) (by simp only [List.length_append, pb_length, putVw_length, HTl.out]; omega)).mono ?_
  rintro e w2 ⟨rfl, H2, K2⟩
  have O2 := O1.wrote K2 (by omega) (by decide)
  have K2 := K1.trans K2
  clear O1 H1 K1 c0 c2
  have c3 := O2.at_ 3 _ rfl
  go_wp2_with fail
  refine (wput B g _ _ H2 xh 8 8 (by decide) (by decide) (by decide) h2 (by simp only [List.length_append, pb_length, putVw_length, HTl.out]; omega)).mono ?_
  rintro e w3 ⟨rfl, H3, K3⟩
  have O3 := O2.wrote K3 (by omega) (by decide)
  have K3 := K2.trans K3
  clear O2 H2 K2 c3
  have c4 := O3.at_ 4 _ rfl
  have c5 := O3.at_ 5 _ rfl
  go_wp2_with fail
  refine (wflags B g _ _ H3 xa xb (by simp only [List.length_append, pb_length, putVw_length, HTl.out]; omega)).mono ?_
  rintro e w4 ⟨rfl, H4, K4⟩
  have O4 := O3.wrote K4 (by omega) (by decide)
  have K4 := K3.trans K4
  clear O3 H3 K3 c4 c5
  have c6 := O4.at_ 6 _ rfl
  have c7 := O4.at_ 7 _ rfl
  have c8 := O4.at_ 8 _ rfl
  have c9 := O4.at_ 9 _ rfl
  have c10 := O4.at_ 10 _ rfl
  go_wp2_with fail
  refine (HW.out _ _ H4 (HU.out.later K4) (by simp only [List.length_append, pb_length, putVw_length, HTl.out]; omega)).mono ?_
  rintro e w5 (⟨hc, rfl, H5, K5⟩ | ⟨hc, rfl, K5⟩)
  rotate_left
  · exact ⟨rfl, .inr ⟨by rw [HEI.out]; exact hc, by rw [HEI.out], K4.trans K5⟩⟩
  have HC := Lib.hid hc
  have K5 := K4.trans K5
  clear O4 H4 K4 c6 c7 c8 c9 c10 hc HW
  go_wp2
  go_end0
  refine .inl ⟨by rw [HEI.out]; exact HC.out, rfl, ?_, K5⟩
  rw [HPI.out]
  simpa only [List.append_assoc] using H5
set_option maxHeartbeats 4000000 in
theorem witem_3 (B g : Nat) (l : List UInt8) (w0 w : World) (h : Wr B g w l) (hu : Und B w0 w) (xd : List UInt8) (T : ByteArray) (xi xh : Nat) (xa xb : Bool) (rn re : Nat) (rr : Int) (rm : Nat) (L : List Vw) (a : Option Addr) (pk pc : Nat) (vn ve : Nat) (vr : Int) (vm xn : Nat) (xx xt : Int)
    (hT : T.data.toList = xd) (hTs : T.size ≤ 1000000) (hok : ((⟨3, xd, xi, xh, xa, xb, ⟨⟨rn, re, rr, rm⟩, L⟩, ⟨vn, ve, vr, vm⟩, xn, xx, xt⟩ : Itm)).ok) (hx : RcIn w0 ⟨⟨⟨rn, re, rr, rm⟩, L⟩, a, pk, pc⟩) (hxk : pk ≤ 1099511627776) (hl : l.length ≤ 1099300000000) :
    Calls Try.prog 39 #[.pointer (some ⟨g, 0, none⟩), .agg #[.int .i64 3, .string T, .int .u32 (xi : Int), .int .u64 (xh : Int), .bool xa, .bool xb, .int .u64 (rn : Int), .int .u64 (re : Int), .int .i64 rr, .int .u64 (rm : Int), .slice a pk pc, .int .u64 (vn : Int), .int .u64 (ve : Int), .int .i64 vr, .int .u64 (vm : Int), .int .u64 (xn : Int), .int .i64 xx, .int .i64 xt]] w (WP (errI (⟨3, xd, xi, xh, xa, xb, ⟨⟨rn, re, rr, rm⟩, L⟩, ⟨vn, ve, vr, vm⟩, xn, xx, xt⟩ : Itm)) (putI (⟨3, xd, xi, xh, xa, xb, ⟨⟨rn, re, rr, rm⟩, L⟩, ⟨vn, ve, vr, vm⟩, xn, xx, xt⟩ : Itm)) B g l w) := by
  have h1 := hok.inc
  have h2 := hok.holds
  have h3 := hok.view
  have h4 := hok.num
  simp only at h1 h2 h3 h4
  have hTl : T.data.toList.length = T.size := by rw [Array.length_toList]; rfl
  have HEI := Lib.hid (show errI (⟨3, xd, xi, xh, xa, xb, ⟨⟨rn, re, rr, rm⟩, L⟩, ⟨vn, ve, vr, vm⟩, xn, xx, xt⟩ : Itm) = errVw ⟨vn, ve, vr, vm⟩ from rfl)
  have HPI := Lib.hid (show putI (⟨3, xd, xi, xh, xa, xb, ⟨⟨rn, re, rr, rm⟩, L⟩, ⟨vn, ve, vr, vm⟩, xn, xx, xt⟩ : Itm) = pb 1 3 ++ putVw ⟨vn, ve, vr, vm⟩ from rfl)
  generalize errI (⟨3, xd, xi, xh, xa, xb, ⟨⟨rn, re, rr, rm⟩, L⟩, ⟨vn, ve, vr, vm⟩, xn, xx, xt⟩ : Itm) = ei at *
  generalize putI (⟨3, xd, xi, xh, xa, xb, ⟨⟨rn, re, rr, rm⟩, L⟩, ⟨vn, ve, vr, vm⟩, xn, xx, xt⟩ : Itm) = pi at *
  have hle := h.le
  have hlt := h.lt
  have HU := Lib.hid hu
  have HT := Lib.hid hT
  have HTl := Lib.hid hTl
  have HW := Lib.hid (fun W l (hW : Wr B g W l) (hU : Und B w0 W) (hl : l.length ≤ 1099500000000) => wrec' B g l w0 W hW hU rn re rr rm L a pk pc hx hxk hl)
  have O0 := Own.new w 43 #[.int .i64 3, .string T, .int .u32 (xi : Int), .int .u64 (xh : Int), .bool xa, .bool xb, .int .u64 (rn : Int), .int .u64 (re : Int), .int .i64 rr, .int .u64 (rm : Int), .slice a pk pc, .int .u64 (vn : Int), .int .u64 (ve : Int), .int .i64 vr, .int .u64 (vm : Int), .int .u64 (xn : Int), .int .i64 xx, .int .i64 xt]
  have H0 := h.later ((Grw.refl w).alloc (.cells #[.int .i64 3, .string T, .int .u32 (xi : Int), .int .u64 (xh : Int), .bool xa, .bool xb, .int .u64 (rn : Int), .int .u64 (re : Int), .int .i64 rr, .int .u64 (rm : Int), .slice a pk pc, .int .u64 (vn : Int), .int .u64 (ve : Int), .int .i64 vr, .int .u64 (vm : Int), .int .u64 (xn : Int), .int .i64 xx, .int .i64 xt] 43)).below
  have K0 := wrote_alloc (B := B) (g := g) hle (.cells #[.int .i64 3, .string T, .int .u32 (xi : Int), .int .u64 (xh : Int), .bool xa, .bool xb, .int .u64 (rn : Int), .int .u64 (re : Int), .int .i64 rr, .int .u64 (rm : Int), .slice a pk pc, .int .u64 (vn : Int), .int .u64 (ve : Int), .int .i64 vr, .int .u64 (vm : Int), .int .u64 (xn : Int), .int .i64 xx, .int .i64 xt] 43)
  have c0 := O0.at_ 0 _ rfl
  clear hx hxk h hu hT hTl hok
  generalize hw0 : w.alloc (.cells #[.int .i64 3, .string T, .int .u32 (xi : Int), .int .u64 (xh : Int), .bool xa, .bool xb, .int .u64 (rn : Int), .int .u64 (re : Int), .int .i64 rr, .int .u64 (rm : Int), .slice a pk pc, .int .u64 (vn : Int), .int .u64 (ve : Int), .int .i64 vr, .int .u64 (vm : Int), .int .u64 (xn : Int), .int .i64 xx, .int .i64 xt] 43) = W0 at *
  go_enter Try.func39, Try.ntmps39
  go_upto_region 1 with fail
  try rw [hw0]
  clear hw0
  go_wp2_with fail
  refine (wsmall B g _ _ H0 3 1 1 4 10 1 (by decide) (by decide) (by decide) (by decide) (by decide) (by decide) (by omega)).mono ?_
  rintro e w1 (⟨hc, rfl, H1, K1⟩ | ⟨hc, rfl, K1⟩)
  rotate_left
  · exact absurd (if_pos ⟨by decide, by decide⟩) hc
  have O1 := O0.wrote K1 (by omega) (by decide)
  have K1 := K0.trans K1
  clear O0 H0 K0 c0 hc
  have c0 := O1.at_ 0 _ rfl
  rw [show pb 1 (3 : Int).toNat = pb 1 3 from rfl] at H1
  have c11 := O1.at_ 11 _ rfl
  have c12 := O1.at_ 12 _ rfl
  have c13 := O1.at_ 13 _ rfl
  have c14 := O1.at_ 14 _ rfl
  have HV := Lib.hid (fun W (hW : Wr B g W (l ++ pb 1 3)) => wview B g _ W hW ⟨vn, ve, vr, vm⟩ h3 (by simp only [List.length_append, pb_length, putVw_length, HTl.out]; omega))
  simp only at HV
  go_wp2_with fail
  refine (HV.out _ H1).mono ?_
  rintro e w5 (⟨hc, rfl, H5, K5⟩ | ⟨hc, rfl, K5⟩)
  rotate_left
  · exact ⟨rfl, .inr ⟨by rw [HEI.out]; exact hc, by rw [HEI.out], K1.trans K5⟩⟩
  have HC := Lib.hid hc
  have K5 := K1.trans K5
  clear O1 H1 K1 c0 c11 c12 c13 c14 hc HW HV
  go_wp2
  go_end0
  refine .inl ⟨by rw [HEI.out]; exact HC.out, rfl, ?_, K5⟩
  rw [HPI.out]
  simpa only [List.append_assoc] using H5
set_option maxHeartbeats 4000000 in
theorem witem_4 (B g : Nat) (l : List UInt8) (w0 w : World) (h : Wr B g w l) (hu : Und B w0 w) (xd : List UInt8) (T : ByteArray) (xi xh : Nat) (xa xb : Bool) (rn re : Nat) (rr : Int) (rm : Nat) (L : List Vw) (a : Option Addr) (pk pc : Nat) (vn ve : Nat) (vr : Int) (vm xn : Nat) (xx xt : Int)
    (hT : T.data.toList = xd) (hTs : T.size ≤ 1000000) (hok : ((⟨4, xd, xi, xh, xa, xb, ⟨⟨rn, re, rr, rm⟩, L⟩, ⟨vn, ve, vr, vm⟩, xn, xx, xt⟩ : Itm)).ok) (hx : RcIn w0 ⟨⟨⟨rn, re, rr, rm⟩, L⟩, a, pk, pc⟩) (hxk : pk ≤ 1099511627776) (hl : l.length ≤ 1099300000000) :
    Calls Try.prog 39 #[.pointer (some ⟨g, 0, none⟩), .agg #[.int .i64 4, .string T, .int .u32 (xi : Int), .int .u64 (xh : Int), .bool xa, .bool xb, .int .u64 (rn : Int), .int .u64 (re : Int), .int .i64 rr, .int .u64 (rm : Int), .slice a pk pc, .int .u64 (vn : Int), .int .u64 (ve : Int), .int .i64 vr, .int .u64 (vm : Int), .int .u64 (xn : Int), .int .i64 xx, .int .i64 xt]] w (WP (errI (⟨4, xd, xi, xh, xa, xb, ⟨⟨rn, re, rr, rm⟩, L⟩, ⟨vn, ve, vr, vm⟩, xn, xx, xt⟩ : Itm)) (putI (⟨4, xd, xi, xh, xa, xb, ⟨⟨rn, re, rr, rm⟩, L⟩, ⟨vn, ve, vr, vm⟩, xn, xx, xt⟩ : Itm)) B g l w) := by
  have h1 := hok.inc
  have h2 := hok.holds
  have h3 := hok.view
  have h4 := hok.num
  simp only at h1 h2 h3 h4
  have hTl : T.data.toList.length = T.size := by rw [Array.length_toList]; rfl
  have HEI := Lib.hid (show errI (⟨4, xd, xi, xh, xa, xb, ⟨⟨rn, re, rr, rm⟩, L⟩, ⟨vn, ve, vr, vm⟩, xn, xx, xt⟩ : Itm) = if xx < 0 ∨ 65535 < xx ∨ xt < 0 ∨ 65535 < xt then 1 else 0 from rfl)
  have HPI := Lib.hid (show putI (⟨4, xd, xi, xh, xa, xb, ⟨⟨rn, re, rr, rm⟩, L⟩, ⟨vn, ve, vr, vm⟩, xn, xx, xt⟩ : Itm) = pb 1 4 ++ (pb 8 xn ++ (pb 2 xx.toNat ++ (pb 2 xt.toNat ++ xd))) from rfl)
  generalize errI (⟨4, xd, xi, xh, xa, xb, ⟨⟨rn, re, rr, rm⟩, L⟩, ⟨vn, ve, vr, vm⟩, xn, xx, xt⟩ : Itm) = ei at *
  generalize putI (⟨4, xd, xi, xh, xa, xb, ⟨⟨rn, re, rr, rm⟩, L⟩, ⟨vn, ve, vr, vm⟩, xn, xx, xt⟩ : Itm) = pi at *
  have hle := h.le
  have hlt := h.lt
  have HU := Lib.hid hu
  have HT := Lib.hid hT
  have HTl := Lib.hid hTl
  have HW := Lib.hid (fun W l (hW : Wr B g W l) (hU : Und B w0 W) (hl : l.length ≤ 1099500000000) => wrec' B g l w0 W hW hU rn re rr rm L a pk pc hx hxk hl)
  have O0 := Own.new w 43 #[.int .i64 4, .string T, .int .u32 (xi : Int), .int .u64 (xh : Int), .bool xa, .bool xb, .int .u64 (rn : Int), .int .u64 (re : Int), .int .i64 rr, .int .u64 (rm : Int), .slice a pk pc, .int .u64 (vn : Int), .int .u64 (ve : Int), .int .i64 vr, .int .u64 (vm : Int), .int .u64 (xn : Int), .int .i64 xx, .int .i64 xt]
  have H0 := h.later ((Grw.refl w).alloc (.cells #[.int .i64 4, .string T, .int .u32 (xi : Int), .int .u64 (xh : Int), .bool xa, .bool xb, .int .u64 (rn : Int), .int .u64 (re : Int), .int .i64 rr, .int .u64 (rm : Int), .slice a pk pc, .int .u64 (vn : Int), .int .u64 (ve : Int), .int .i64 vr, .int .u64 (vm : Int), .int .u64 (xn : Int), .int .i64 xx, .int .i64 xt] 43)).below
  have K0 := wrote_alloc (B := B) (g := g) hle (.cells #[.int .i64 4, .string T, .int .u32 (xi : Int), .int .u64 (xh : Int), .bool xa, .bool xb, .int .u64 (rn : Int), .int .u64 (re : Int), .int .i64 rr, .int .u64 (rm : Int), .slice a pk pc, .int .u64 (vn : Int), .int .u64 (ve : Int), .int .i64 vr, .int .u64 (vm : Int), .int .u64 (xn : Int), .int .i64 xx, .int .i64 xt] 43)
  have c0 := O0.at_ 0 _ rfl
  clear hx hxk h hu hT hTl hok
  generalize hw0 : w.alloc (.cells #[.int .i64 4, .string T, .int .u32 (xi : Int), .int .u64 (xh : Int), .bool xa, .bool xb, .int .u64 (rn : Int), .int .u64 (re : Int), .int .i64 rr, .int .u64 (rm : Int), .slice a pk pc, .int .u64 (vn : Int), .int .u64 (ve : Int), .int .i64 vr, .int .u64 (vm : Int), .int .u64 (xn : Int), .int .i64 xx, .int .i64 xt] 43) = W0 at *
  go_enter Try.func39, Try.ntmps39
  go_upto_region 1 with fail
  try rw [hw0]
  clear hw0
  go_wp2_with fail
  refine (wsmall B g _ _ H0 4 1 1 4 10 1 (by decide) (by decide) (by decide) (by decide) (by decide) (by decide) (by omega)).mono ?_
  rintro e w1 (⟨hc, rfl, H1, K1⟩ | ⟨hc, rfl, K1⟩)
  rotate_left
  · exact absurd (if_pos ⟨by decide, by decide⟩) hc
  have O1 := O0.wrote K1 (by omega) (by decide)
  have K1 := K0.trans K1
  clear O0 H0 K0 c0 hc
  have c0 := O1.at_ 0 _ rfl
  rw [show pb 1 (4 : Int).toNat = pb 1 4 from rfl] at H1
  have c15 := O1.at_ 15 _ rfl
  go_wp2_with fail
  refine (wput B g _ _ H1 xn 8 8 (by decide) (by decide) (by decide) h4 (by simp only [List.length_append, pb_length, putVw_length, HTl.out]; omega)).mono ?_
  rintro e w2 ⟨rfl, H2, K2⟩
  have O2 := O1.wrote K2 (by omega) (by decide)
  have K2 := K1.trans K2
  clear O1 H1 K1 c0 c15
  have c16 := O2.at_ 16 _ rfl
  go_wp2_with fail
  refine (wsmall B g _ _ H2 xx 0 2 65535 1 2 (by decide) (by decide) (by decide) (by decide) (by decide) (by decide) (by simp only [List.length_append, pb_length, putVw_length, HTl.out]; omega)).mono ?_
  rintro e w3 (⟨hc, rfl, H3, K3⟩ | ⟨hc, rfl, K3⟩)
  rotate_left
  · have hn : ¬ ((0 : Int) ≤ xx ∧ xx ≤ ((65535 : Nat) : Int)) := fun hq => hc (if_pos hq)
    have he : ei = 1 := by rw [HEI.out]; exact if_pos (by omega)
    rw [if_neg hn]
    exact ⟨rfl, .inr ⟨by rw [he]; decide, by rw [he], K2.trans K3⟩⟩
  have hxx : 0 ≤ xx ∧ xx ≤ 65535 := by
    by_cases hq : (0 : Int) ≤ xx ∧ xx ≤ ((65535 : Nat) : Int)
    · omega
    · rw [if_neg hq] at hc; cases hc
  have HQxx := Lib.hid hxx
  have O3 := O2.wrote K3 (by omega) (by decide)
  have K3 := K2.trans K3
  clear hc hxx
  clear O2 H2 K2 c16
  have c17 := O3.at_ 17 _ rfl
  go_wp2_with fail
  refine (wsmall B g _ _ H3 xt 0 2 65535 1 2 (by decide) (by decide) (by decide) (by decide) (by decide) (by decide) (by simp only [List.length_append, pb_length, putVw_length, HTl.out]; omega)).mono ?_
  rintro e w4 (⟨hc, rfl, H4, K4⟩ | ⟨hc, rfl, K4⟩)
  rotate_left
  · have hn : ¬ ((0 : Int) ≤ xt ∧ xt ≤ ((65535 : Nat) : Int)) := fun hq => hc (if_pos hq)
    have he : ei = 1 := by rw [HEI.out]; exact if_pos (by omega)
    rw [if_neg hn]
    exact ⟨rfl, .inr ⟨by rw [he]; decide, by rw [he], K3.trans K4⟩⟩
  have hxt : 0 ≤ xt ∧ xt ≤ 65535 := by
    by_cases hq : (0 : Int) ≤ xt ∧ xt ≤ ((65535 : Nat) : Int)
    · omega
    · rw [if_neg hq] at hc; cases hc
  have HQxt := Lib.hid hxt
  have O4 := O3.wrote K4 (by omega) (by decide)
  have K4 := K3.trans K4
  clear hc hxt
  clear O3 H3 K3 c17
  have c1 := O4.at_ 1 _ rfl
  have HS := Lib.hid (fun W (hW : Wr B g W (l ++ pb 1 4 ++ pb 8 xn ++ pb 2 xx.toNat ++ pb 2 xt.toNat)) => wwriteString B g _ W hW T (by simp only [List.length_append, pb_length, putVw_length, HTl.out]; omega))
  have H4d := Wr.later H4 (Grw.refl w4).drew.below
  have K4d := K4.trans (Wrote.grw (B := B) (g := g) (Grw.refl w4).drew (by have := H4.le; omega))
  go_upto_region 16 with fail
  go_region_held2 (fun w' => w'.cell? ⟨w.heap.size, 1, none⟩ = some (.string T)) (first | (with_reducible exact d1) | go_keep)
    (first | (go_at_call 59; (with_reducible refine (HS.out _ H4d).mono ?_); rintro e w9 ⟨rfl, H9, K9⟩; (have d1 : w9.cell? ⟨w.heap.size, 1, none⟩ = some (.string T) := (O4.drew.wrote K9 (by omega) (by decide)).at_ 1 _ rfl)))
  have K9 := K4d.trans K9
  clear O4 H4 H4d K4d K4 HS c1 d1
  go_wp2
  go_end0
  refine .inl ⟨by rw [HEI.out]; exact if_neg (by have := HQxx.out; have := HQxt.out; omega), rfl, ?_, K9⟩
  rw [HPI.out, ← HT.out]
  simpa only [List.append_assoc] using H9
end Go.Proofs.Ytblefbjmjhgkkaa

/- Layer 19: a stable record printed, an item printed. -/
set_option linter.unusedVariables false
set_option maxRecDepth 100000
set_option linter.unusedSimpArgs false
namespace Go.Proofs.Ytblefbjmjhgkkaa
open Go.RowKit Go.Sort

set_option maxHeartbeats 4000000 in
theorem witem_0 (B g : Nat) (l : List UInt8) (w : World) (h : Wr B g w l) (k : Int) (cs : List Value) (hcs : cs.length = 17) (hk : ¬ (1 ≤ k ∧ k ≤ 4)) (hl : l.length ≤ 1099300000000) :
    Calls Try.prog 39 #[.pointer (some ⟨g, 0, none⟩), .agg (.int .i64 k :: cs).toArray] w fun e w' => e = .panicked (pan 10) ∧ Wrote B g w w' := by
  have hle := h.le
  have hlt := h.lt
  match cs, hcs with
  | [x1, x2, x3, x4, x5, x6, x7, x8, x9, x10, x11, x12, x13, x14, x15, x16, x17], _ =>
    have O0 := Own.new w 43 #[.int .i64 k, x1, x2, x3, x4, x5, x6, x7, x8, x9, x10, x11, x12, x13, x14, x15, x16, x17]
    have H0 := h.later ((Grw.refl w).alloc (.cells #[.int .i64 k, x1, x2, x3, x4, x5, x6, x7, x8, x9, x10, x11, x12, x13, x14, x15, x16, x17] 43)).below
    have K0 := wrote_alloc (B := B) (g := g) hle (.cells #[.int .i64 k, x1, x2, x3, x4, x5, x6, x7, x8, x9, x10, x11, x12, x13, x14, x15, x16, x17] 43)
    have c0 := O0.at_ 0 _ rfl
    clear h
    have HK : Hid (¬ (1 ≤ k ∧ k ≤ ((4 : Nat) : Int))) := Lib.hid (by intro h; exact hk ⟨h.1, by have := h.2; omega⟩)
    generalize hw0 : w.alloc (.cells #[.int .i64 k, x1, x2, x3, x4, x5, x6, x7, x8, x9, x10, x11, x12, x13, x14, x15, x16, x17] 43) = W0 at *
    clear hk
    go_enter Try.func39, Try.ntmps39
    go_upto_region 1 with fail
    try rw [hw0]
    clear hw0
    go_wp2_with fail
    refine (wsmall B g _ _ H0 k 1 1 4 10 1 (by decide) (by decide) (by decide) (by decide) (by decide) (by decide) (by omega)).mono ?_
    rintro e w1 (⟨hc, rfl, H1, K1⟩ | ⟨hc, rfl, K1⟩)
    · exact absurd hc (by rw [if_neg HK.out]; decide)
    rw [if_neg HK.out]
    exact ⟨rfl, rfl, K0.trans K1⟩
/-- An item of whatever kind. -/
theorem witem (B g : Nat) (l : List UInt8) (w0 w : World) (h : Wr B g w l) (hu : Und B w0 w) (x : Itm) (T : ByteArray) (a : Option Addr) (pk pc : Nat)
    (hT : T.data.toList = x.data) (hTs : T.size ≤ 1000000) (hok : x.ok) (hx : RcIn w0 ⟨x.r, a, pk, pc⟩) (hxk : pk ≤ 1099511627776) (hl : l.length ≤ 1099300000000) :
    Calls Try.prog 39 #[.pointer (some ⟨g, 0, none⟩), .agg (encI x T a pk pc).toArray] w (WP (errI x) (putI x) B g l w) := by
  obtain ⟨k, xd, xi, xh, xa, xb, ⟨⟨rn, re, rr, rm⟩, L⟩, ⟨vn, ve, vr, vm⟩, xn, xx, xt⟩ := x
  by_cases hk : 1 ≤ k ∧ k ≤ 4
  · obtain rfl | rfl | rfl | rfl : k = 1 ∨ k = 2 ∨ k = 3 ∨ k = 4 := by omega
    · exact witem_1 B g l w0 w h hu xd T xi xh xa xb rn re rr rm L a pk pc vn ve vr vm xn xx xt hT hTs hok hx hxk hl
    · exact witem_2 B g l w0 w h hu xd T xi xh xa xb rn re rr rm L a pk pc vn ve vr vm xn xx xt hT hTs hok hx hxk hl
    · exact witem_3 B g l w0 w h hu xd T xi xh xa xb rn re rr rm L a pk pc vn ve vr vm xn xx xt hT hTs hok hx hxk hl
    · exact witem_4 B g l w0 w h hu xd T xi xh xa xb rn re rr rm L a pk pc vn ve vr vm xn xx xt hT hTs hok hx hxk hl
  · have he : errI ⟨k, xd, xi, xh, xa, xb, ⟨⟨rn, re, rr, rm⟩, L⟩, ⟨vn, ve, vr, vm⟩, xn, xx, xt⟩ = 10 := by
      unfold errI
      rw [if_neg (by show ¬ k = 1; omega), if_neg (by show ¬ k = 2; omega), if_neg (by show ¬ k = 3; omega), if_neg (by show ¬ k = 4; omega)]
    refine (witem_0 B g l w h k _ rfl hk hl).mono ?_
    rintro e w' ⟨rfl, K⟩
    rw [he]
    exact .inr ⟨by decide, rfl, K⟩
/-- What a closure that prints does. -/
def CW (c : Nat) (put : List UInt8) (w : World) (e : Ending) (w' : World) : Prop :=
  Below w.heap.size w w' ∧ ((c = 0 ∧ e = .returned (.string ⟨put.toArray⟩)) ∨ (c ≠ 0 ∧ e = .panicked (pan c)))
theorem putS_ne (x : Stb) : putS x ≠ [] := by intro e; have := putS_length x; rw [e] at this; simp at this; omega
theorem putI_ne (x : Itm) : putI x ≠ [] := by unfold putI; intro e; have := congrArg List.length e; rw [List.length_append, pb_length] at this; simp at this
set_option maxHeartbeats 4000000 in
theorem print1S (g0 : Nat) (w : World) (x : Stb) (a : Option Addr) (k c : Nat) (hc : Own w g0 33 (encS x a k c).toArray) (hx : RcIn w ⟨x.r, a, k, c⟩) (hep : x.ep < 18446744073709551616) (hinc : x.inc < 4294967296) (hxk : k ≤ 1099511627776) :
    Calls Try.prog 35 #[.pointer (some ⟨g0, 0, none⟩)] w (CW (errRec x.r) (putS x) w) := by
  have HNE := Lib.hid (putS_ne x)
  have W1 := Wr.new w.heap.size w (Nat.le_refl _)
  have G1 := (Grw.refl w).alloc (.cells #[.pointer none, .slice none 0 0] 88)
  have U1 : Und w.heap.size w (w.alloc (.cells #[.pointer none, .slice none 0 0] 88)) := ⟨rfl, G1.below⟩
  have S1 := hc.below G1.below hc.lt
  have HWS := wstable w.heap.size w.heap.size [] w _ W1 U1 x a k c hx hep hinc hxk (by simp)
  generalize errRec x.r = er at *
  clear W1 U1 hx G1 hc
  go_enter Try.func35, Try.ntmps35
  go_upto_region 2 with fail
  go_wp2_with (refine load_stable rfl (.tmp 0) rfl g0 rfl S1 ?_)
  refine HWS.mono ?_
  rintro e w2 (⟨h0, rfl, H2, K2⟩ | ⟨h0, rfl, K2⟩)
  rotate_left
  · exact ⟨rfl, ((Grw.refl w).alloc _).below.trans K2.below, .inr ⟨h0, rfl⟩⟩
  have B2 := ((Grw.refl w).alloc (.cells #[.pointer none, .slice none 0 0] 88)).below.trans K2.below
  have HS := wstring w.heap.size w.heap.size _ w2 H2 (by rw [List.nil_append]; exact HNE.out)
  rw [List.nil_append] at HS
  have H0 := Lib.hid h0
  generalize putS x = ps at *
  clear H2 K2 HWS S1 h0
  go_wp2_with fail
  refine HS.mono ?_
  rintro e w3 ⟨rfl, L3⟩
  have B3 := Lib.hid (B2.trans L3)
  clear HS B2 L3
  go_wp2
  go_ret
  exact ⟨B3.out, .inl ⟨H0.out, rfl⟩⟩
set_option maxHeartbeats 4000000 in
theorem print1I (g0 : Nat) (w : World) (x : Itm) (T : ByteArray) (a : Option Addr) (k c : Nat) (hc : Own w g0 43 (encI x T a k c).toArray) (hT : T.data.toList = x.data) (hTs : T.size ≤ 1000000) (hok : x.ok) (hx : RcIn w ⟨x.r, a, k, c⟩) (hxk : k ≤ 1099511627776) :
    Calls Try.prog 38 #[.pointer (some ⟨g0, 0, none⟩)] w (CW (codeI x) (putI x) w) := by
  have HNE := Lib.hid (putI_ne x)
  have W1 := Wr.new w.heap.size w (Nat.le_refl _)
  have G1 := (Grw.refl w).alloc (.cells #[.pointer none, .slice none 0 0] 88)
  have U1 : Und w.heap.size w (w.alloc (.cells #[.pointer none, .slice none 0 0] 88)) := ⟨rfl, G1.below⟩
  have S1 := hc.below G1.below hc.lt
  have HWS := witem w.heap.size w.heap.size [] w _ W1 U1 x T a k c hT hTs hok hx hxk (by simp)
  have HCI := Lib.hid (show codeI x = orN (errI x) (if 1024 < (putI x).length then 3 else 0) from rfl)
  generalize codeI x = ci at *
  generalize errI x = er at *
  clear W1 U1 hx G1 hc
  go_enter Try.func38, Try.ntmps38
  go_upto_region 2 with fail
  go_wp2_with (refine load_item rfl (.tmp 0) rfl g0 rfl S1 ?_)
  refine HWS.mono ?_
  rintro e w2 (⟨h0, rfl, H2, K2⟩ | ⟨h0, rfl, K2⟩)
  rotate_left
  · have he : ci = er := by rw [HCI.out]; exact orN_left h0
    exact ⟨rfl, ((Grw.refl w).alloc _).below.trans K2.below, .inr ⟨by rw [he]; exact h0, by rw [he]⟩⟩
  have HC2 := Lib.hid (show ci = if 1024 < (putI x).length then 3 else 0 by rw [HCI.out]; exact orN_right h0)
  have B2 := ((Grw.refl w).alloc (.cells #[.pointer none, .slice none 0 0] 88)).below.trans K2.below
  have HL := wlen w.heap.size w.heap.size _ w2 H2
  have HS := wstring w.heap.size w.heap.size _ w2 H2 (by rw [List.nil_append]; exact HNE.out)
  rw [List.nil_append] at HS HL
  generalize putI x = ps at *
  generalize hn : ps.length = n at *
  clear H2 K2 HWS S1 h0 HCI hn
  go_wp2_with fail
  refine HL.mono ?_
  rintro e w3 ⟨rfl, rfl⟩
  by_cases hlt : 1024 < n
  · have he : ci = 3 := by rw [HC2.out]; exact if_pos hlt
    go_wp2_with fail
    refine (within_no (n : Int) 0 1024 3 _ (.inr (by omega))).mono ?_
    rintro e w4 ⟨rfl, rfl⟩
    exact ⟨rfl, B2, .inr ⟨by first | decide | (rw [he]; decide), by first | rfl | (rw [he]; rfl)⟩⟩
  have HZ := Lib.hid (show ci = 0 by rw [HC2.out]; exact if_neg hlt)
  go_wp2_with fail
  refine (within_yes (n : Int) 0 1024 3 _ (by omega) (by omega)).mono ?_
  rintro e w4 ⟨rfl, rfl⟩
  clear HL HC2 hlt
  go_wp2_with fail
  refine HS.mono ?_
  rintro e w3 ⟨rfl, L3⟩
  have B3 := Lib.hid (B2.trans L3)
  clear HS B2 L3
  go_wp2
  go_ret
  exact ⟨B3.out, .inl ⟨HZ.out, rfl⟩⟩
end Go.Proofs.Ytblefbjmjhgkkaa

/- Layer 19: Print and PrintItem: what answer makes of the closures. -/
set_option linter.unusedVariables false
set_option maxRecDepth 100000
set_option linter.unusedSimpArgs false
namespace Go.Proofs.Ytblefbjmjhgkkaa
open Go.RowKit Go.Sort

/-- What is handed out of what was put: it, or nothing, where something is wrong. -/
def strOf (c : Nat) (put : List UInt8) : ByteArray := if c = 0 then ⟨put.toArray⟩ else { data := #[] }
theorem strOf_yes {c : Nat} {put : List UInt8} (h : c = 0) : strOf c put = ⟨put.toArray⟩ := if_pos h
theorem strOf_no {c : Nat} {put : List UInt8} (h : c ≠ 0) : strOf c put = { data := #[] } := if_neg h
theorem results_tc {fn : Func} {p u : Tmp} (h : fn.results = #[.tmp p, .cell u 34]) (tmps : Array Value) {W : World} {g1 : Nat} {c : Int}
    (hu : tmps.getD u undef = .pointer (some ⟨g1, 0, none⟩)) (h1 : W.cell? ⟨g1, 0, none⟩ = some (.int .i64 c)) :
    (results fn tmps).run Try.prog W = .ok (.tuple #[tmps.getD p undef, .int .i64 c]) W := by
  have hu' : tmps[u]?.getD undef = .pointer (some ⟨g1, 0, none⟩) := by simpa using hu
  simp [results, h, hu', asAddr, Result.andThen, loadVar, go_sem, h1]

set_option maxHeartbeats 4000000 in
theorem answerTS (g0 : Nat) (w : World) (x : Stb) (a : Option Addr) (k c : Nat) (hc : Own w g0 33 (encS x a k c).toArray) (hx : RcIn w ⟨x.r, a, k, c⟩) (hep : x.ep < 18446744073709551616) (hinc : x.inc < 4294967296) (hxk : k ≤ 1099511627776) :
    Calls Try.prog 34 #[.func (.func 35) #[] #[.pointer (some ⟨g0, 0, none⟩)]] w fun e w' => e = .returned (.tuple #[.string (strOf (errRec x.r) (putS x)), .int .i64 ((errRec x.r : Nat) : Int)]) ∧ Below w.heap.size w w' := by
  have hmf : ∀ (fn : Fn) (first cap : Array Value) (w : World), (Instr.makeFunc fn first cap).run Try.prog w = .ok (.func fn first cap) w := fun _ _ _ _ => rfl
  have E1 := Own.new w 34 #[.int .i64 0]
  have G1 := (Grw.refl w).alloc (.cells #[.int .i64 0] 34)
  have hlt := hc.lt
  have P := print1S g0 _ x a k c (hc.below G1.below hc.lt) (hx.below G1.below) hep hinc hxk
  have B1 := G1.below
  generalize errRec x.r = cd at *
  generalize putS x = pt at *
  clear G1 hc hx
  go_enter_defers Try.func34, Try.ntmps34
  go_wp2_with fail
  refine P.mono ?_
  rintro e w3 ⟨hb, ⟨h0, rfl⟩ | ⟨h0, rfl⟩⟩
  rotate_left
  · have E3 := E1.below hb E1.lt
    have B3 := B1.trans (hb.mono B1.size)
    refine leaves_cons (f := 55) (args := #[.pointer (some ⟨w.heap.size, 0, none⟩)]) (by simp) (by simp [go_sem]) ?_
    refine (acatchT w.heap.size (cd : Int) w3 _ E3).mono ?_
    rintro e u' w'' ⟨rfl, rfl, rfl⟩
    exact ⟨_, results_tc rfl _ rfl ((E3.set 0 _).at_ 0 _ rfl), by rw [strOf_no h0]; rfl, B3.setCell (Nat.le_refl _) _⟩
  have E3 := E1.below hb E1.lt
  have B3 := B1.trans (hb.mono B1.size)
  have c1 : w3.cell? ⟨w.heap.size, 0, none⟩ = some (.int .i64 0) := E3.at_ 0 _ rfl
  have f1 := E3.free 0
  have H0 := Lib.hid h0
  clear P E1 B1 hb h0
  go_wp2
  refine leaves_cons (f := 55) (args := #[.pointer (some ⟨w.heap.size, 0, none⟩)]) (by simp) (by simp [go_sem]) ?_
  refine (aidleT _ _).mono ?_
  rintro e u' w'' ⟨rfl, rfl, rfl⟩
  exact ⟨_, results_tc rfl _ rfl ((E3.set 0 _).at_ 0 _ rfl), by rw [strOf_yes H0.out, H0.out]; rfl, B3.setCell (Nat.le_refl _) _⟩
set_option maxHeartbeats 4000000 in
theorem lprintS (w : World) (x : Stb) (a : Option Addr) (k c : Nat) (hx : RcIn w ⟨x.r, a, k, c⟩) (hep : x.ep < 18446744073709551616) (hinc : x.inc < 4294967296) (hxk : k ≤ 1099511627776) :
    Calls Try.prog 15 #[.agg (encS x a k c).toArray] w fun e w' => e = .returned (.tuple #[.string (strOf (errRec x.r) (putS x)), .int .i64 ((errRec x.r : Nat) : Int)]) ∧ Below w.heap.size w w' := by
  have hmf : ∀ (fn : Fn) (first cap : Array Value) (w : World), (Instr.makeFunc fn first cap).run Try.prog w = .ok (.func fn first cap) w := fun _ _ _ _ => rfl
  have S1 : Own (w.alloc (.cells (encS x a k c).toArray 33)) w.heap.size 33 (encS x a k c).toArray := Own.new _ _ _
  have G1 := (Grw.refl w).alloc (.cells (encS x a k c).toArray 33)
  have P := answerTS w.heap.size _ x a k c S1 (hx.below G1.below) hep hinc hxk
  have B1 := G1.below
  generalize errRec x.r = cd at *
  generalize putS x = pt at *
  generalize strOf cd pt = st at *
  clear G1 hx S1
  go_enter Try.func15, Try.ntmps15
  go_wp2_with fail
  refine P.mono ?_
  rintro e w3 ⟨rfl, hb⟩
  have B3 := Lib.hid (B1.trans (hb.mono B1.size))
  clear P B1 hb
  go_wp2
  go_ret2
  exact ⟨rfl, B3.out⟩

set_option maxHeartbeats 4000000 in
theorem answerTI (g0 : Nat) (w : World) (x : Itm) (T : ByteArray) (a : Option Addr) (k c : Nat) (hc : Own w g0 43 (encI x T a k c).toArray) (hT : T.data.toList = x.data) (hTs : T.size ≤ 1000000) (hok : x.ok) (hx : RcIn w ⟨x.r, a, k, c⟩) (hxk : k ≤ 1099511627776) :
    Calls Try.prog 34 #[.func (.func 38) #[] #[.pointer (some ⟨g0, 0, none⟩)]] w fun e w' => e = .returned (.tuple #[.string (strOf (codeI x) (putI x)), .int .i64 ((codeI x : Nat) : Int)]) ∧ Below w.heap.size w w' := by
  have hmf : ∀ (fn : Fn) (first cap : Array Value) (w : World), (Instr.makeFunc fn first cap).run Try.prog w = .ok (.func fn first cap) w := fun _ _ _ _ => rfl
  have E1 := Own.new w 34 #[.int .i64 0]
  have G1 := (Grw.refl w).alloc (.cells #[.int .i64 0] 34)
  have hlt := hc.lt
  have P := print1I g0 _ x T a k c (hc.below G1.below hc.lt) hT hTs hok (hx.below G1.below) hxk
  have B1 := G1.below
  generalize codeI x = cd at *
  generalize putI x = pt at *
  clear G1 hc hx
  go_enter_defers Try.func34, Try.ntmps34
  go_wp2_with fail
  refine P.mono ?_
  rintro e w3 ⟨hb, ⟨h0, rfl⟩ | ⟨h0, rfl⟩⟩
  rotate_left
  · have E3 := E1.below hb E1.lt
    have B3 := B1.trans (hb.mono B1.size)
    refine leaves_cons (f := 55) (args := #[.pointer (some ⟨w.heap.size, 0, none⟩)]) (by simp) (by simp [go_sem]) ?_
    refine (acatchT w.heap.size (cd : Int) w3 _ E3).mono ?_
    rintro e u' w'' ⟨rfl, rfl, rfl⟩
    exact ⟨_, results_tc rfl _ rfl ((E3.set 0 _).at_ 0 _ rfl), by rw [strOf_no h0]; rfl, B3.setCell (Nat.le_refl _) _⟩
  have E3 := E1.below hb E1.lt
  have B3 := B1.trans (hb.mono B1.size)
  have c1 : w3.cell? ⟨w.heap.size, 0, none⟩ = some (.int .i64 0) := E3.at_ 0 _ rfl
  have f1 := E3.free 0
  have H0 := Lib.hid h0
  clear P E1 B1 hb h0
  go_wp2
  refine leaves_cons (f := 55) (args := #[.pointer (some ⟨w.heap.size, 0, none⟩)]) (by simp) (by simp [go_sem]) ?_
  refine (aidleT _ _).mono ?_
  rintro e u' w'' ⟨rfl, rfl, rfl⟩
  exact ⟨_, results_tc rfl _ rfl ((E3.set 0 _).at_ 0 _ rfl), by rw [strOf_yes H0.out, H0.out]; rfl, B3.setCell (Nat.le_refl _) _⟩
set_option maxHeartbeats 4000000 in
theorem lprintI (w : World) (x : Itm) (T : ByteArray) (a : Option Addr) (k c : Nat) (hT : T.data.toList = x.data) (hTs : T.size ≤ 1000000) (hok : x.ok) (hx : RcIn w ⟨x.r, a, k, c⟩) (hxk : k ≤ 1099511627776) :
    Calls Try.prog 16 #[.agg (encI x T a k c).toArray] w fun e w' => e = .returned (.tuple #[.string (strOf (codeI x) (putI x)), .int .i64 ((codeI x : Nat) : Int)]) ∧ Below w.heap.size w w' := by
  have hmf : ∀ (fn : Fn) (first cap : Array Value) (w : World), (Instr.makeFunc fn first cap).run Try.prog w = .ok (.func fn first cap) w := fun _ _ _ _ => rfl
  have S1 : Own (w.alloc (.cells (encI x T a k c).toArray 43)) w.heap.size 43 (encI x T a k c).toArray := Own.new _ _ _
  have G1 := (Grw.refl w).alloc (.cells (encI x T a k c).toArray 43)
  have P := answerTI w.heap.size _ x T a k c S1 hT hTs hok (hx.below G1.below) hxk
  have B1 := G1.below
  generalize codeI x = cd at *
  generalize putI x = pt at *
  generalize strOf cd pt = st at *
  clear G1 hx S1
  go_enter Try.func16, Try.ntmps16
  go_wp2_with fail
  refine P.mono ?_
  rintro e w3 ⟨rfl, hb⟩
  have B3 := Lib.hid (B1.trans (hb.mono B1.size))
  clear P B1 hb
  go_wp2
  go_ret2
  exact ⟨rfl, B3.out⟩
end Go.Proofs.Ytblefbjmjhgkkaa
