/- Layer 19: writing: the builder that is embedded; texts, numbers; what a writer's method does. -/
import Derived.Test.YtblefbjmjhgkkaaLgKit
import Derived.Test.YtblefbjmjhgkkaaPut
import Derived.Lib.Builder
import Derived.Lib.AppendStr
import Derived.Lib.Strings
import Derived.Lib.UnsafeStr
import Derived.Lib.Slices
import Derived.RegionTactic
import Derived.Laws.Externs
set_option linter.unusedVariables false
set_option maxRecDepth 100000
set_option linter.unusedSimpArgs false
namespace Go.Proofs.Ytblefbjmjhgkkaa
open Go.RowKit Go.Sort

/-- A writer in block g, that holds the bytes l; its own row stands at B or behind. -/
def Wr (B g : Nat) (w : World) (l : List UInt8) : Prop := ∃ p, (p = .pointer none ∨ p = .pointer (some ⟨g, 0, none⟩)) ∧ Lib.BuilderAt 88 5 B g p (cells8 l) w
/-- A row of bytes? -/
def Byt (w : World) (j : Nat) : Prop := ∃ cs fr, w.heap[j]? = some (.cells cs 5 fr)
/-- What a writer's method leaves: below B all, and of the rest all but the writer's block and rows of bytes. -/
structure Wrote (B g : Nat) (w w' : World) : Prop where
  below : Below B w w'
  keep : ∀ j, j < w.heap.size → j ≠ g → ¬ Byt w j → w'.heap[j]? = w.heap[j]?
theorem Wrote.refl (B g : Nat) (w : World) : Wrote B g w w := ⟨Below.refl _ _, fun _ _ _ _ => rfl⟩
theorem Wrote.trans {B g : Nat} {a b c : World} (h : Wrote B g a b) (k : Wrote B g b c) : Wrote B g a c :=
  ⟨h.below.trans k.below, fun j hj hg hb => (k.keep j (Nat.lt_of_lt_of_le hj h.below.size) hg (fun ⟨cs, fr, e⟩ => hb ⟨cs, fr, (h.keep j hj hg hb).symm.trans e⟩)).trans (h.keep j hj hg hb)⟩
theorem Wrote.grw {B g : Nat} {w w' : World} (h : Grw w w') (hB : B ≤ w.heap.size) : Wrote B g w w' := ⟨h.below.mono hB, fun j hj _ _ => h.below.block j hj⟩
theorem Wrote.of_below {B g : Nat} {w w' : World} (h : Below w.heap.size w w') (hB : B ≤ w.heap.size) : Wrote B g w w' := ⟨h.mono hB, fun j hj _ _ => h.block j hj⟩
/-- A block of another kind stays. -/
theorem Own.wrote {B g j : Nat} {w w' : World} {ty : TypeId} {cs : Array Value} (h : Own w j ty cs) (hw : Wrote B g w w') (hj : j ≠ g) (ht : ty ≠ 5) : Own w' j ty cs :=
  (hw.keep j h.lt hj (fun ⟨cs', fr, e⟩ => by rw [h.is] at e; simp only [Option.some.injEq, Obj.cells.injEq] at e; exact ht e.2.1)).trans h
theorem Wr.lt {B g : Nat} {w : World} {l : List UInt8} (h : Wr B g w l) : g < w.heap.size := by obtain ⟨p, _, h⟩ := h; exact h.lt
theorem Wr.ge {B g : Nat} {w : World} {l : List UInt8} (h : Wr B g w l) : B ≤ g := by obtain ⟨p, _, h⟩ := h; exact h.1
theorem Wr.le {B g : Nat} {w : World} {l : List UInt8} (h : Wr B g w l) : B ≤ w.heap.size := Nat.le_trans h.ge (Nat.le_of_lt h.lt)
theorem Wr.later {B g : Nat} {w w' : World} {l : List UInt8} (h : Wr B g w l) (hb : Below w.heap.size w w') : Wr B g w' l := by
  obtain ⟨p, hp, hB, v, hk, hown, hne⟩ := h
  have hlt : g < w.heap.size := (Array.getElem?_eq_some_iff.1 hk).1
  exact ⟨p, hp, hB, v, (hb.block g hlt).trans hk, hown.kept (row := none) ⟨hb.os, hb.tape, hb.output, hb.size, fun k hk _ => hb.block k hk⟩ (Classical.em _), hne⟩
theorem Wr.new (B : Nat) (w : World) (hB : B ≤ w.heap.size) : Wr B w.heap.size (w.alloc (.cells #[.pointer none, .slice none 0 0] 88)) [] :=
  ⟨_, .inl rfl, hB, .slice none 0 0, heap_alloc_new w _, World.ownsRow_nil _ _ _ _, by simp [Value.ownBlock]⟩
theorem Wr.used {B g : Nat} {w : World} {l : List UInt8} (h : Wr B g w l) : Lib.BuilderAt 88 5 B g (.pointer (some ⟨g, 0, none⟩)) (cells8 l) (w.setCell ⟨g, 0, none⟩ (.pointer (some ⟨g, 0, none⟩))) := by
  obtain ⟨p, _, h⟩ := h; exact h.used _

theorem builder_info : ∃ j, Try.prog.info? 86 = some j ∧ j.size = 2 := Option.map_eq_some_iff.1 (show (Try.prog.info? 86).map (·.size) = some 2 by kernel_rfl)
theorem writer_lies : liesAt Try.prog Try.prog.depth 88 (2 / Try.prog.cellsOf 88) 0 86 1 = true := by kernel_rfl

set_option maxHeartbeats 1000000 in
set_option maxRecDepth 100000 in
theorem check_used (g : Nat) (w : World) (h0 : w.cell? ⟨g, 0, none⟩ = some (.pointer (some ⟨g, 0, none⟩))) :
    Calls Try.prog 71 #[.pointer (some ⟨g, 0, none⟩)] w fun e w' => e = .returned (.tuple #[]) ∧ w = w' := by
  obtain ⟨j, hj, _⟩ := builder_info
  go_enter Try.func71, Try.ntmps71
  go_wp2
  rw [Lib.run_neq_ptr_same w _ Try.underlying83 hj]
  go_wp2
  go_end0
  exact ⟨rfl, rfl⟩
set_option maxHeartbeats 1000000 in
set_option maxRecDepth 100000 in
theorem check_fresh (g : Nat) (w : World) (h0 : w.cell? ⟨g, 0, none⟩ = some (.pointer none)) (hsh : w.shape? g = some (88, 2)) (hfz : w.frozen? ⟨g, 0, none⟩ = false) :
    Calls Try.prog 71 #[.pointer (some ⟨g, 0, none⟩)] w fun e w' => e = .returned (.tuple #[]) ∧ w.setCell ⟨g, 0, none⟩ (.pointer (some ⟨g, 0, none⟩)) = w' := by
  obtain ⟨j, hj, hjs⟩ := builder_info
  go_enter Try.func71, Try.ntmps71
  go_wp2
  rw [Lib.run_to_unsafe w ⟨g, 0, none⟩ Try.underlying83 Try.underlying125 hj (by rw [hjs]; decide) hsh (Nat.zero_lt_succ 1)]
  simp only [Result.andThen]
  rw [Oper.upon_value]
  go_wp2
  rw [run_callFunc_extern Try.func73 (by kernel_rfl) (by kernel_rfl) (by kernel_rfl) (e := Extern.AbiNoEscape.same) (by kernel_rfl)]
  rw [Lib.run_noEscape]
  simp only [Result.andThen]
  rw [Oper.upon_value]
  go_wp2
  rw [Lib.run_from_unsafe w ⟨g, 0, none⟩ Try.underlying125 Try.underlying83 hj hsh writer_lies]
  simp only [Result.andThen]
  rw [Oper.upon_value]
  go_wp2
  go_end0
  exact ⟨rfl, rfl⟩
theorem wrote_set {B g : Nat} {w : World} (hB : B ≤ g) (j : Nat) (v : Value) : Wrote B g w (w.setCell ⟨g, j, none⟩ v) :=
  ⟨(Below.refl B w).setCell (p := ⟨g, j, none⟩) hB v, fun k _ hk _ => heap_setCell_other w _ _ v (by show k ≠ g; exact hk)⟩
theorem check_any (B g : Nat) (l : List UInt8) (w : World) (h : Wr B g w l) :
    Calls Try.prog 71 #[.pointer (some ⟨g, 0, none⟩)] w fun e w' => e = .returned (.tuple #[]) ∧ Lib.BuilderAt 88 5 B g (.pointer (some ⟨g, 0, none⟩)) (cells8 l) w' ∧ Wrote B g w w' ∧ ∀ p v, p.block ≠ g → w.cell? p = some v → w'.cell? p = some v := by
  obtain ⟨p, hp | hp, h⟩ := h
  · subst hp
    refine (check_fresh g w h.cell0 h.shape h.frozen0).mono ?_
    rintro e w' ⟨rfl, rfl⟩
    exact ⟨rfl, h.used _, wrote_set h.1 _ _, fun p v hp hc => by rw [World.cell?_of_block (heap_setCell_other w ⟨g, 0, none⟩ p.block _ hp)]; exact hc⟩
  · subst hp
    refine (check_used g w h.cell0).mono ?_
    rintro e w' ⟨rfl, rfl⟩
    exact ⟨rfl, h, Wrote.refl _ _ _, fun _ _ _ hc => hc⟩

theorem own_byt {w : World} {B g : Nat} {v : Value} {n : Nat} {xs : List Value} (h : w.ownsRow B 5 1 v n xs) (hg : v.ownBlock = some g) : Byt w g := by
  rcases h.2 with ⟨rfl, _⟩ | ⟨g', cap, cur, rfl, _, hg', _⟩
  · cases hg
  · simp only [Value.ownBlock, Option.some.injEq] at hg
    subst hg
    exact ⟨_, _, hg'⟩

set_option maxHeartbeats 2000000 in
set_option maxRecDepth 100000 in
theorem wwrite (B g : Nat) (l : List UInt8) (w : World) (h : Wr B g w l) (ad : Addr) (m c : Nat) (news : List UInt8) (hm : news.length = m) (had : ad.block ≠ g) (hs : ∀ j v, (cells8 news)[j]? = some v → w.cell? (ad.add j) = some v) (hl : l.length + m ≤ 1099511627776) :
    Calls Try.prog 69 #[.pointer (some ⟨g, 0, none⟩), .slice (some ad) m c] w fun e w' => e = .returned (.tuple #[.int .i64 (m : Int), .nilIface]) ∧ Wr B g w' (l ++ news) ∧ Wrote B g w w' := by
  obtain ⟨i0, hi, hz0, hz1, hz2⟩ := info_parts Try.info8
  have hle := h.le
  have HS := Lib.hid hs
  clear hs
  go_enter Try.func69, Try.ntmps69
  go_wp2_with fail
  refine (check_any B g l w h).mono ?_
  rintro e w1 ⟨rfl, h1, hb1, hc1⟩
  obtain ⟨hB, v, hbk, hown, hne⟩ := h1
  have hl8 : (cells8 l).length = l.length := cells8_length l
  have hsrc := Lib.hid (fun j u (hj : (cells8 news)[j]? = some u) => hc1 (ad.add j) u (by unfold Addr.add; split <;> exact had) (HS.out j u hj))
  have c0 : w1.cell? ⟨g, 0, none⟩ = some (.pointer (some ⟨g, 0, none⟩)) := by rw [Lib.cell_of_heap hbk]; rfl
  have c1 : w1.cell? ⟨g, 1, none⟩ = some v := by rw [Lib.cell_of_heap hbk]; rfl
  clear hc1
  go_wp2_with (at_builtin; refine wpList_append_own _ rfl _ _ 84 rfl B 5 i0 (.int .u8 0) 1 1 Try.underlying84 hi hz0 hz1 hz2 rfl (by decide) _ _ _ rfl hown ad m c (cells8 news) rfl ?c0 hsrc.out (cells8_one news) ?c3 ?c4 ?c5 ?_)
  case c0 => rw [cells8_length, hm, Nat.mul_one]
  case c3 => unfold maxLen; omega
  case c4 => omega
  case c5 => have := hb1.below.size; omega
  intro v' w2 hown' hgrow _
  have hlt : g < w1.heap.size := (Array.getElem?_eq_some_iff.1 hbk).1
  have hb2 : w2.heap[g]? = some (.cells #[.pointer (some ⟨g, 0, none⟩), v] 88 (0, 0)) := by
    rw [hgrow.block g hlt (fun e => hne e.symm)]
    exact hbk
  have d0 : w2.cell? ⟨g, 0, none⟩ = some (.pointer (some ⟨g, 0, none⟩)) := by rw [Lib.cell_of_heap hb2]; rfl
  have d1 : w2.cell? ⟨g, 1, none⟩ = some v := by rw [Lib.cell_of_heap hb2]; rfl
  have f1 : w2.frozen? ⟨g, 1, none⟩ = false := Lib.frozen_of_heap hb2 1
  obtain ⟨ao, n', cap, rfl⟩ : ∃ ao n' cap, v' = .slice ao n' cap := by
    rcases hown'.2 with ⟨hv, _⟩ | ⟨g, cap, cur, hv, _⟩
    · exact ⟨_, _, _, hv⟩
    · exact ⟨_, _, _, hv⟩
  go_wp2
  go_ret2
  refine ⟨rfl, ⟨_, .inr rfl, Lib.BuilderAt.put (T := 88) (e := 5) hB hb2 (bs' := cells8 (l ++ news)) (by rw [cells8_append]; simpa [cells8_length, hm] using hown') (by decide)⟩, ?_⟩
  refine hb1.trans (Wrote.trans ⟨?_, ?_⟩ (wrote_set hB 1 _))
  · exact (Below.refl B w1).grown hgrow (by have := hb1.below.size; omega) (fun k hk => (hown.lt k hk).1)
  · exact fun j hj hg hb => hgrow.block j hj (fun e => hb (own_byt hown e.symm))
set_option maxHeartbeats 2000000 in
set_option maxRecDepth 100000 in
theorem wwriteString (B g : Nat) (l : List UInt8) (w : World) (h : Wr B g w l) (s : ByteArray) (hl : l.length + s.size ≤ 1099511627776) :
    Calls Try.prog 59 #[.pointer (some ⟨g, 0, none⟩), .string s] w fun e w' => e = .returned (.tuple #[.int .i64 (s.size : Int), .nilIface]) ∧ Wr B g w' (l ++ s.data.toList) ∧ Wrote B g w w' := by
  obtain ⟨i0, hi, hz0, hz1, hz2⟩ := info_parts Try.info8
  have hle := h.le
  go_enter Try.func59, Try.ntmps59
  go_wp2_with fail
  refine (check_any B g l w h).mono ?_
  rintro e w1 ⟨rfl, h1, hb1, hc1⟩
  obtain ⟨hB, v, hbk, hown, hne⟩ := h1
  have hl8 : (cells8 l).length = l.length := cells8_length l
  have c0 : w1.cell? ⟨g, 0, none⟩ = some (.pointer (some ⟨g, 0, none⟩)) := by rw [Lib.cell_of_heap hbk]; rfl
  have c1 : w1.cell? ⟨g, 1, none⟩ = some v := by rw [Lib.cell_of_heap hbk]; rfl
  clear hc1
  go_wp2_with (at_builtin; refine Lib.wpList_append_own_string _ rfl _ _ 84 9 rfl B 5 i0 Try.underlying84 Try.underlying9 hi hz0 hz1 hz2 _ _ _ rfl hown s rfl ?c3 ?c4 ?c5 ?_)
  case c3 => unfold maxLen; omega
  case c4 => omega
  case c5 => have := hb1.below.size; omega
  intro v' w2 hown' hgrow _
  have hlt : g < w1.heap.size := (Array.getElem?_eq_some_iff.1 hbk).1
  have hb2 : w2.heap[g]? = some (.cells #[.pointer (some ⟨g, 0, none⟩), v] 88 (0, 0)) := by
    rw [hgrow.block g hlt (fun e => hne e.symm)]
    exact hbk
  have d0 : w2.cell? ⟨g, 0, none⟩ = some (.pointer (some ⟨g, 0, none⟩)) := by rw [Lib.cell_of_heap hb2]; rfl
  have d1 : w2.cell? ⟨g, 1, none⟩ = some v := by rw [Lib.cell_of_heap hb2]; rfl
  have f1 : w2.frozen? ⟨g, 1, none⟩ = false := Lib.frozen_of_heap hb2 1
  obtain ⟨ao, n', cap, rfl⟩ : ∃ ao n' cap, v' = .slice ao n' cap := by
    rcases hown'.2 with ⟨hv, _⟩ | ⟨g, cap, cur, hv, _⟩
    · exact ⟨_, _, _, hv⟩
    · exact ⟨_, _, _, hv⟩
  go_wp2
  go_ret2
  have e8 : cells8 (l ++ s.data.toList) = cells8 l ++ Lib.strCells s := cells8_append _ _
  refine ⟨rfl, ⟨_, .inr rfl, Lib.BuilderAt.put (T := 88) (e := 5) hB hb2 (bs' := cells8 (l ++ s.data.toList)) (by rw [e8]; simpa [Lib.strCells_length, cells8_length] using hown') (by decide)⟩, ?_⟩
  refine hb1.trans (Wrote.trans ⟨?_, ?_⟩ (wrote_set hB 1 _))
  · exact (Below.refl B w1).grown hgrow (by have := hb1.below.size; omega) (fun k hk => (hown.lt k hk).1)
  · exact fun j hj hg hb => hgrow.block j hj (fun e => hb (own_byt hown e.symm))

theorem own_src {w : World} {base g n cap : Nat} {L : List UInt8} (h : w.ownsRow base 5 1 (.slice (some ⟨g, 0, none⟩) n cap) n (cells8 L)) : ∀ j u, (cells8 L)[j]? = some u → w.cell? ((⟨g, 0, none⟩ : Addr).add j) = some u := by
  rcases Src.own h with ⟨h, _⟩ | ⟨ad, e, hs⟩
  · cases h
  · cases e; exact hs

set_option maxHeartbeats 2000000 in
theorem wput (B g : Nat) (l : List UInt8) (w : World) (h : Wr B g w l) (v n : Nat) (k : Int) (hk : wid k = n) (hn : 0 < n) (hn8 : n ≤ 8) (hv : v < 18446744073709551616) (hl : l.length ≤ 1099511000000) :
    Calls Try.prog 56 #[.pointer (some ⟨g, 0, none⟩), .int .u64 (v : Int), .int .i64 k] w fun e w' => e = .returned (.tuple #[]) ∧ Wr B g w' (l ++ pb n v) ∧ Wrote B g w w' := by
  have hle := h.le
  have h' : Wr B g w.drew l := h
  have hlt : w.heap.size ≠ g := by have := h.lt; omega
  go_enter Try.func56, Try.ntmps56
  go_wp2
  go_region_held2 (fun _ => True) (trivial)
    (first
      | (go_at_call 70; (refine (put_len w.heap.size none [] 0 0 v k n w.drew rfl (.inl ⟨rfl, rfl⟩) rfl (by decide) hv hk hn8).mono ?_); rintro e w1 ⟨rfl, hown, hb1⟩; (have HW := wwrite B g l w1 (h'.later hb1) ⟨w.heap.size, 0, none⟩ n n (pb n v) (pb_length n v) hlt (own_src hown) (by omega)); clear hown)
      | (go_at_call 69; (refine HW.mono ?_); rintro e w2 ⟨rfl, H2, K2⟩))
  go_wp2
  go_end0
  exact ⟨rfl, H2, (Wrote.grw (Grw.refl w).drew hle).trans ((Wrote.of_below (w := w.drew) hb1 hle).trans K2)⟩
/-- What a writer's method does: it puts those bytes; or gives up by that error. -/
def WP (c : Nat) (put : List UInt8) (B g : Nat) (l : List UInt8) (w : World) (e : Ending) (w' : World) : Prop :=
  (c = 0 ∧ e = .returned (.tuple #[]) ∧ Wr B g w' (l ++ put) ∧ Wrote B g w w') ∨ (c ≠ 0 ∧ e = .panicked (pan c) ∧ Wrote B g w w')
/-- What the packet's lists stand in: a world below B, of which nothing has turned. -/
structure Und (B : Nat) (w0 w : World) : Prop where
  size : w0.heap.size = B
  below : Below B w0 w
theorem Und.later {B g : Nat} {w0 w w' : World} (h : Und B w0 w) (k : Wrote B g w w') : Und B w0 w' := ⟨h.size, h.below.trans k.below⟩
theorem Und.alloc {B : Nat} {w0 w : World} (h : Und B w0 w) (hB : B ≤ w.heap.size) (o : Obj) : Und B w0 (w.alloc o) := ⟨h.size, h.below.alloc hB o⟩
theorem wrote_alloc {B g : Nat} {w : World} (hB : B ≤ w.heap.size) (o : Obj) : Wrote B g w (w.alloc o) := Wrote.grw ((Grw.refl w).alloc o) hB

set_option maxHeartbeats 1000000 in
theorem wsmall (B g : Nat) (l : List UInt8) (w : World) (h : Wr B g w l) (v lo : Int) (n m c : Nat) (k : Int) (hk : wid k = n) (hn : 0 < n) (hn8 : n ≤ 8) (h0 : 0 ≤ lo) (hm : m < 65536) (hc : c ≠ 0) (hl : l.length ≤ 1099511000000) :
    Calls Try.prog 58 #[.pointer (some ⟨g, 0, none⟩), .int .i64 v, .int .i64 k, .int .i64 lo, .int .i64 (m : Int), .int .i64 (c : Int)] w (WP (if lo ≤ v ∧ v ≤ m then 0 else c) (pb n v.toNat) B g l w) := by
  by_cases hv : lo ≤ v ∧ v ≤ m
  · rw [if_pos hv]
    obtain ⟨u, rfl⟩ := Int.eq_ofNat_of_zero_le (show 0 ≤ v by omega)
    have hu2 : (u : Int) < 65536 := by omega
    have hv1 := Lib.hid hv.1
    have hv2 := Lib.hid hv.2
    clear hv
    go_enter Try.func58, Try.ntmps58
    go_wp2_with fail
    refine (within_yes (u : Int) lo m c _ hv1.out hv2.out).mono ?_
    rintro e w1 ⟨rfl, rfl⟩
    go_wp2_with fail
    refine (wput B g l _ h u n k hk hn hn8 (by omega) hl).mono ?_
    rintro e w1 ⟨rfl, H1, K1⟩
    go_wp2
    go_end0
    exact .inl ⟨rfl, rfl, H1, K1⟩
  · rw [if_neg hv]
    have HV := Lib.hid hv
    clear hv
    go_enter Try.func58, Try.ntmps58
    go_wp2_with fail
    refine (within_no v lo m c _ (by have := HV.out; omega)).mono ?_
    rintro e w1 ⟨rfl, rfl⟩
    exact ⟨rfl, .inr ⟨hc, rfl, Wrote.refl _ _ _⟩⟩
set_option maxHeartbeats 1000000 in
set_option maxRecDepth 100000 in
theorem wstring (B g : Nat) (l : List UInt8) (w : World) (h : Wr B g w l) (h0 : l ≠ []) :
    Calls Try.prog 37 #[.pointer (some ⟨g, 0, none⟩)] w fun e w' => e = .returned (.string ⟨l.toArray⟩) ∧ Below B w w' := by
  obtain ⟨p, _, hB, v, hbk, hown, hne⟩ := h
  have hl0 : l.length ≠ 0 := by simpa using h0
  rw [cells8_length] at hown
  obtain ⟨r, cap, cur, rfl, hbg, hg, hnc, hcm, hcs, htake⟩ : ∃ r cap cur, v = .slice (some ⟨r, 0, none⟩) l.length cap ∧ B ≤ r ∧ w.heap[r]? = some (.cells cur 5 (0, 0)) ∧ l.length ≤ cap ∧ cap ≤ maxLen ∧ cur.size = cap * 1 ∧ cur.toList.take (l.length * 1) = cells8 l := by
    rcases hown.2 with ⟨_, hz⟩ | ⟨r, cap, cur, hv, q⟩
    · exact absurd hz hl0
    · exact ⟨r, cap, cur, hv, q⟩
  have c1 : w.drew.cell? ⟨g, 1, none⟩ = some (.slice (some ⟨r, 0, none⟩) l.length cap) := by
    have : w.drew.heap[g]? = some (.cells #[p, .slice (some ⟨r, 0, none⟩) l.length cap] 88 (0, 0)) := hbk
    rw [Lib.cell_of_heap this]; rfl
  have hSD : (Builtin.unsafeSliceData_ #[84] 107 #[.slice (some ⟨r, 0, none⟩) l.length cap]).run Try.prog w.drew = .ok (.pointer (some ⟨r, 0, none⟩)) w.drew :=
    Lib.run_unsafeSliceData_row _ _ _ _ _ _ (by omega)
  have hUS : (Builtin.unsafeString_ #[107, 3] 9 #[.pointer (some ⟨r, 0, none⟩), .int .i64 l.length]).run Try.prog w.drew = .ok (.string ⟨l.toArray⟩) (w.drew.freeze ⟨r, 0, none⟩ l.length) := by
    refine Lib.run_unsafeString_row w.drew 107 3 9 5 Try.underlying107 (by kernel_rfl) r cur.size (by have hg' : w.drew.heap[r]? = some (.cells cur 5 (0, 0)) := hg; simp [World.shape?, hg']) l h0 (by omega) (by unfold maxLen at hcm; omega) ?_
    intro j x hx
    have := hown.cells (g := r) rfl j (.int .u8 x.toNat) (by simp [cells8, cell8, hx])
    exact this
  go_enter Try.func37, Try.ntmps37
  go_wp2
  go_region
  all_goals (go_wp2; go_ret; exact ⟨rfl, Lib.below_freeze (Below.drew (Below.refl B w)) (p := ⟨r, 0, none⟩) hbg _⟩)

set_option maxHeartbeats 1000000 in
set_option maxRecDepth 100000 in
theorem wlen (B g : Nat) (l : List UInt8) (w : World) (h : Wr B g w l) :
    Calls Try.prog 40 #[.pointer (some ⟨g, 0, none⟩)] w fun e w' => e = .returned (.int .i64 (l.length : Int)) ∧ w = w' := by
  obtain ⟨p, _, hB, v, hbk, hown, hne⟩ := h
  rw [cells8_length] at hown
  obtain ⟨ao, cap, rfl⟩ := own_form' hown
  have c1 : w.cell? ⟨g, 1, none⟩ = some (.slice ao l.length cap) := by rw [Lib.cell_of_heap hbk]; rfl
  generalize l.length = n at *
  go_enter Try.func40, Try.ntmps40
  go_wp2
  go_ret
  exact ⟨rfl, rfl⟩
end Go.Proofs.Ytblefbjmjhgkkaa
