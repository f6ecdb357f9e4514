/- A record's bytes; parsing a slot: the program's. -/
import Derived.Test.YtimdemidnleiiaaDiskMath
import Derived.Test.YtimdemidnleiiaaDiskClone
import Derived.Test.YtimdemidnleiiaaFlat
import Derived.Test.YtimdemidnleiiaaLaws
import Derived.Laws.ResultCell
set_option linter.unusedVariables false
set_option linter.unusedSimpArgs false
namespace Go.Proofs.Ytimdemidnleiiaa
open Go.RowKit Go.Sort

theorem dbelowRow {B : Nat} {a w : World} (h : Below B a w) (g : Nat) (hg : B ≤ g) (cs : Array Value) : Below B a (w.setRow g cs) :=
  ⟨h.os, h.tape, h.output, by rw [size_setRow]; exact h.size, fun k hk => (setRow_other _ _ _ _ (by omega)).trans (h.block k hk)⟩
/-- A record in a block. -/
def RecB (w : World) (g : Nat) (n : Nat) (t : ByteArray) : Prop := Own w g 50 #[.int .u64 (n : Int), .string t]
theorem RecB.own {w : World} {g n : Nat} {t : ByteArray} (h : RecB w g n t) : Own w g 50 #[.int .u64 (n : Int), .string t] := h
theorem RecB.new (w : World) (n : Nat) (t : ByteArray) : RecB (w.alloc (.cells #[.int .u64 (n : Int), .string t] 50)) w.heap.size n t := Own.new w _ _
theorem RecB.put {w : World} {g n : Nat} {t : ByteArray} (h : RecB w g n t) (n' : Nat) (t' : ByteArray) : RecB (w.setRow g #[.int .u64 (n' : Int), .string t']) g n' t' := setRow_heap _ _ _ _ _ _ h
theorem RecB.below {w w' : World} {g n B : Nat} {t : ByteArray} (h : RecB w g n t) (hb : Below B w w') (hB : g < B) : RecB w' g n t := (hb.block g hB).trans h
theorem RecB.later {w w' : World} {g n : Nat} {t : ByteArray} (h : RecB w g n t) (hb : Below w.heap.size w w') : RecB w' g n t := h.below hb h.own.lt
theorem RecB.c0 {w : World} {g n : Nat} {t : ByteArray} (h : RecB w g n t) : w.cell? ⟨g, 0, none⟩ = some (.int .u64 (n : Int)) := h.own.at_ 0 _ rfl
theorem RecB.c1 {w : World} {g n : Nat} {t : ByteArray} (h : RecB w g n t) : w.cell? ⟨g, 1, none⟩ = some (.string t) := h.own.at_ 1 _ rfl
theorem RecB.lt {w : World} {g n : Nat} {t : ByteArray} (h : RecB w g n t) : g < w.heap.size := h.own.lt
theorem RecB.otherRow {w : World} {g n : Nat} {t : ByteArray} (h : RecB w g n t) (g' : Nat) (cs : Array Value) (hg : g ≠ g') : RecB (w.setRow g' cs) g n t := (setRow_other _ _ _ _ hg).trans h
theorem drec_size : (Try.prog.info? 50).map (·.size) = some 2 := by kernel_rfl
theorem drec_one (n : Int) (t : ByteArray) : (#[.int .u64 n, .string t] : Array Value).all (·.oneCell') = true := by simp [Value.oneCell']
/-- A record stored, and loaded, whole. -/
theorem store_drec {ops : Array Oper} {rest : List Oper} {o : Oper} {A : Act} {w : World} {Q : Exit → Act → World → Prop} (hgd : o.guard = none) (x y : Operand) (ho : o.op = .store 50 x y)
    (g n : Nat) (t : ByteArray) (hx : A.eval x = .pointer (some ⟨g, 0, none⟩)) (hy : A.eval y = .agg #[.int .u64 (n : Int), .string t])
    {n0 : Nat} {t0 : ByteArray} (hg : RecB w g n0 t0)
    (h : wpList Try.prog ops Q rest (A.put o.dst undef) (w.setRow g #[.int .u64 (n : Int), .string t])) : wpList Try.prog ops Q (o :: rest) A w :=
  wpList_store_row hgd 50 x y ho g _ hx hy 50 _ hg drec_size rfl (drec_one n t) h
theorem load_drec {ops : Array Oper} {rest : List Oper} {o : Oper} {A : Act} {w : World} {Q : Exit → Act → World → Prop} (hgd : o.guard = none) (x : Operand) (ho : o.op = .load 50 x)
    (g : Nat) (hx : A.eval x = .pointer (some ⟨g, 0, none⟩)) {n : Nat} {t : ByteArray} (hg : RecB w g n t)
    (h : wpList Try.prog ops Q rest (A.put o.dst (.agg #[.int .u64 (n : Int), .string t])) w) : wpList Try.prog ops Q (o :: rest) A w :=
  wpList_load_row hgd 50 x ho g hx 50 _ _ _ hg Try.underlying50 rfl drec_size h
/-- Handed back: a record's block, beside slots. -/
theorem drec_load (w : World) (g : Nat) {n : Nat} {t : ByteArray} (hg : RecB w g n t) : (loadVar 50 ⟨g, 0, none⟩).run Try.prog w = .ok (.agg #[.int .u64 (n : Int), .string t]) w :=
  run_loadVar_row (P := Try.prog) w g 50 50 #[.int .u64 (n : Int), .string t] (0, 0) _ hg Try.underlying50 rfl drec_size
theorem results_drec {fn : Func} {p u : Tmp} (h : fn.results = #[.cell p 50, .tmp u]) (tmps : Array Value) (w : World) (g : Nat) {n : Nat} {t : ByteArray}
    (hp : tmps.getD p undef = .pointer (some ⟨g, 0, none⟩)) (hg : RecB w g n t) :
    (results fn tmps).run Try.prog w = .ok (.tuple #[.agg #[.int .u64 (n : Int), .string t], tmps.getD u undef]) w := by
  rw [results_cell_tmp h, hp]
  simp [asAddr, drec_load w g hg, Result.andThen]
theorem results_num_drec {fn : Func} {p u : Tmp} (h : fn.results = #[.tmp u, .cell p 50]) (tmps : Array Value) (w : World) (g : Nat) {n : Nat} {t : ByteArray}
    (hp : tmps.getD p undef = .pointer (some ⟨g, 0, none⟩)) (hg : RecB w g n t) :
    (results fn tmps).run Try.prog w = .ok (.tuple #[tmps.getD u undef, .agg #[.int .u64 (n : Int), .string t]]) w := by
  have e := drec_load w g hg
  rw [Array.getD_eq_getD_getElem?] at hp
  simp [results, h, hp, asAddr, e]
theorem results_three_drec {fn : Func} {p u v : Tmp} (h : fn.results = #[.tmp u, .cell p 50, .tmp v]) (tmps : Array Value) (w : World) (g : Nat) {n : Nat} {t : ByteArray}
    (hp : tmps.getD p undef = .pointer (some ⟨g, 0, none⟩)) (hg : RecB w g n t) :
    (results fn tmps).run Try.prog w = .ok (.tuple #[tmps.getD u undef, .agg #[.int .u64 (n : Int), .string t], tmps.getD v undef]) w := by
  have e := drec_load w g hg
  rw [Array.getD_eq_getD_getElem?] at hp
  simp [results, h, hp, asAddr, e]

set_option maxHeartbeats 2000000 in
theorem dbytes (n : Nat) (t : ByteArray) (w : World) (hn : n < 18446744073709551616) (ht : t.size ≤ 8192) :
    Calls Try.prog 23 #[.agg #[.int .u64 (n : Int), .string t]] w fun e w' => e = .returned (.string (bytesS n t)) ∧ Below w.heap.size w w' := by
  have hz := headS_size n t.size
  have hs : ∀ W, Calls Try.prog 30 #[.string (headS n t.size ++ t)] W fun e w' => e = .returned (.string (bytesS n t)) ∧ Grw W w' := fun W => seal_any _ W (by rw [ByteArray.size_append, hz]; omega)
  have HH : Hid ((⟨(pb 8 n ++ pb 2 t.size).toArray⟩ : ByteArray) = headS n t.size) := Lib.hid rfl
  have H8 := Lib.hid (show wid 8 = ((8 : Nat) : Int) by decide)
  have H2 := Lib.hid (show wid 2 = ((2 : Nat) : Int) by decide)
  generalize bytesS n t = x at *
  generalize headS n t.size = z at *
  go_enter Try.func23, Try.ntmps23
  go_wp2_with fail
  refine (put_len (w.heap.size + 1) none [] 0 0 n 8 8 _ (by simp) (.inl ⟨rfl, rfl⟩) rfl (by omega) hn H8.out (by decide)).mono ?_
  rintro e w1 ⟨rfl, hown, hb1⟩
  have HG := Lib.hid (((Grw.refl w).alloc (.cells #[.int .u64 (n : Int), .string t] 50)).below.trans (hb1.mono (by omega)))
  have c0 : w1.cell? ⟨w.heap.size, 0, none⟩ = some (.int .u64 (n : Int)) := by rw [hb1.cell (p := ⟨w.heap.size, 0, none⟩) (Nat.lt_succ_self _)]; simp
  have c1 : w1.cell? ⟨w.heap.size, 1, none⟩ = some (.string t) := by rw [hb1.cell (p := ⟨w.heap.size, 1, none⟩) (Nat.lt_succ_self _)]; simp
  have HO := Lib.hid hown
  have hlt : w.heap.size < w1.heap.size := by have := hb1.size; simp at this; omega
  clear hown hb1
  go_wp2_with fail
  refine (put_len w1.heap.size (some ⟨w.heap.size + 1, 0, none⟩) (pb 8 n) 8 8 t.size 2 2 w1 rfl (Src.own (by simpa using HO.out)) (pb_length 8 n) (by omega) (by omega) H2.out (by decide)).mono ?_
  rintro e w2 ⟨rfl, hown, hb2⟩
  have hcv := conv_own _ _ _ _ _ _ hown
  rw [HH.out] at hcv
  have HG2 := Lib.hid (HG.out.trans (hb2.mono HG.out.size))
  have d1 : w2.cell? ⟨w.heap.size, 1, none⟩ = some (.string t) := by rw [hb2.cell (p := ⟨w.heap.size, 1, none⟩) hlt]; exact c1
  clear hown hb2 c0 c1 HO
  go_wp2_with fail
  refine (hs _).mono ?_
  rintro e w3 ⟨rfl, G3⟩
  go_wp2
  go_ret
  exact ⟨rfl, HG2.out.trans (G3.below.mono HG2.out.size)⟩
end Go.Proofs.Ytimdemidnleiiaa
