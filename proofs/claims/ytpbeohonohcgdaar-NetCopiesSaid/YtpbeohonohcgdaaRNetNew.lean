/- New, At. -/
import Derived.Test.YtpbeohonohcgdaaRNetCut
set_option linter.unusedVariables false
set_option linter.unusedSimpArgs false
namespace Go.Proofs.YtpbeohonohcgdaaR
open Go.RowKit Go.Sort

theorem belowRow {B : Nat} {a w : World} (h : Go.RowKit.Below B a w) (g : Nat) (hg : B ≤ g) (cs : Array Value) : Go.RowKit.Below B a (w.setRow g cs) :=
  ⟨h.os, h.tape, h.output, by rw [size_setRow]; exact h.size, fun k hk => (setRow_other _ _ _ _ (by omega)).trans (h.block k hk)⟩
/-- A block that holds a datagram. -/
def DgB (w : World) (g : Nat) (a b : Int) (s : ByteArray) (c : Bool) : Prop := Own w g 28 #[.int .i64 a, .int .i64 b, .string s, .bool c]
theorem DgB.own {w : World} {g : Nat} {a b : Int} {s : ByteArray} {c : Bool} (h : DgB w g a b s c) : Own w g 28 #[.int .i64 a, .int .i64 b, .string s, .bool c] := h
theorem DgB.new (w : World) (a b : Int) (s : ByteArray) (c : Bool) : DgB (w.alloc (.cells #[.int .i64 a, .int .i64 b, .string s, .bool c] 28)) w.heap.size a b s c := Own.new w _ _
theorem DgB.put {w : World} {g : Nat} {a b : Int} {s : ByteArray} {c : Bool} (h : DgB w g a b s c) (a' b' : Int) (s' : ByteArray) (c' : Bool) : DgB (w.setRow g #[.int .i64 a', .int .i64 b', .string s', .bool c']) g a' b' s' c' := setRow_heap _ _ _ _ _ _ h
theorem DgB.below {w w' : World} {g B : Nat} {a b : Int} {s : ByteArray} {c : Bool} (h : DgB w g a b s c) (hb : Below B w w') (hB : g < B) : DgB w' g a b s c := (hb.block g hB).trans h
theorem DgB.c0 {w : World} {g : Nat} {a b : Int} {s : ByteArray} {c : Bool} (h : DgB w g a b s c) : w.cell? ⟨g, 0, none⟩ = some (.int .i64 a) := h.own.at_ 0 _ rfl
theorem DgB.c1 {w : World} {g : Nat} {a b : Int} {s : ByteArray} {c : Bool} (h : DgB w g a b s c) : w.cell? ⟨g, 1, none⟩ = some (.int .i64 b) := h.own.at_ 1 _ rfl
theorem DgB.c2 {w : World} {g : Nat} {a b : Int} {s : ByteArray} {c : Bool} (h : DgB w g a b s c) : w.cell? ⟨g, 2, none⟩ = some (.string s) := h.own.at_ 2 _ rfl
theorem DgB.c3 {w : World} {g : Nat} {a b : Int} {s : ByteArray} {c : Bool} (h : DgB w g a b s c) : w.cell? ⟨g, 3, none⟩ = some (.bool c) := h.own.at_ 3 _ rfl
theorem dg_size : (Try.prog.info? 28).map (·.size) = some 4 := by kernel_rfl
theorem dg_one (a b : Int) (s : ByteArray) (c : Bool) : (#[.int .i64 a, .int .i64 b, .string s, .bool c] : Array Value).all (·.oneCell') = true := by simp [Value.oneCell']
/-- A datagram stored, whole. -/
theorem store_dg {ops : Array Oper} {rest : List Oper} {o : Oper} {A : Act} {w : World} {Q : Exit → Act → World → Prop} (hgd : o.guard = none) (x y : Operand) (ho : o.op = .store 28 x y)
    (g : Nat) (a b : Int) (s : ByteArray) (c : Bool) (hx : A.eval x = .pointer (some ⟨g, 0, none⟩)) (hy : A.eval y = .agg #[.int .i64 a, .int .i64 b, .string s, .bool c])
    {a0 b0 : Int} {s0 : ByteArray} {c0 : Bool} (hg : DgB w g a0 b0 s0 c0)
    (h : wpList Try.prog ops Q rest (A.put o.dst undef) (w.setRow g #[.int .i64 a, .int .i64 b, .string s, .bool c])) : wpList Try.prog ops Q (o :: rest) A w :=
  wpList_store_row hgd 28 x y ho g _ hx hy 28 _ hg dg_size rfl (dg_one a b s c) h
theorem load_dg {ops : Array Oper} {rest : List Oper} {o : Oper} {A : Act} {w : World} {Q : Exit → Act → World → Prop} (hgd : o.guard = none) (x : Operand) (ho : o.op = .load 28 x)
    (g : Nat) (hx : A.eval x = .pointer (some ⟨g, 0, none⟩)) {a b : Int} {s : ByteArray} {c : Bool} (hg : DgB w g a b s c)
    (h : wpList Try.prog ops Q rest (A.put o.dst (.agg #[.int .i64 a, .int .i64 b, .string s, .bool c])) w) : wpList Try.prog ops Q (o :: rest) A w :=
  wpList_load_row hgd 28 x ho g hx 28 _ _ _ hg Try.underlying28 rfl dg_size h
/-- Handed back: what a datagram's block holds, and a slot. -/
theorem results_dg {fn : Func} {p u : Tmp} (h : fn.results = #[.cell p 28, .tmp u]) (tmps : Array Value) (w : World) (g : Nat) {a b : Int} {s : ByteArray} {c : Bool}
    (hp : tmps.getD p undef = .pointer (some ⟨g, 0, none⟩)) (hg : DgB w g a b s c) :
    (results fn tmps).run Try.prog w = .ok (.tuple #[.agg #[.int .i64 a, .int .i64 b, .string s, .bool c], tmps.getD u undef]) w := by
  rw [results_cell_tmp h, hp]
  have hl := run_loadVar_row (P := Try.prog) w g 28 28 #[.int .i64 a, .int .i64 b, .string s, .bool c] (0, 0) _ hg Try.underlying28 rfl dg_size
  simp [asAddr, hl, Result.andThen]
theorem zeroN (w : World) : (zeroValue 56).run Try.prog w = .ok (.agg #[.int .u64 0, .int .u64 0, .int .u64 0, .int .u64 0, .int .u64 0, .int .u64 0, .int .u64 0, .int .u64 0, .int .u64 0, .int .u64 0, .int .u64 0, .int .u64 0, .int .u64 0, .int .u64 0, .int .u64 0, .int .u64 0, .int .u64 0, .int .u64 0, .int .u64 0, .int .u64 0, .int .u64 0, .int .u64 0, .int .u64 0, .int .u64 0, .int .u64 0, .int .u64 0, .int .u64 0, .int .u64 0, .int .u64 0, .int .u64 0, .int .u64 0, .int .u64 0, .int .u64 0, .int .u64 0, .int .u64 0, .int .u64 0, .int .u64 0, .int .u64 0, .int .u64 0, .int .u64 0, .int .u64 0, .int .u64 0, .int .u64 0, .int .u64 0, .int .u64 0, .int .u64 0, .int .u64 0, .int .u64 0, .int .u64 0, .int .u64 0, .int .u64 0, .int .u64 0, .int .u64 0, .int .u64 0, .int .u64 0, .int .u64 0, .int .u64 0, .int .u64 0, .int .u64 0, .int .u64 0, .int .u64 0, .int .u64 0, .int .u64 0, .int .u64 0, .int .u64 0, .slice none 0 0]) w := by kernel_rfl
def newN (n : Int) : Nt := ⟨below n, healL (below n) (List.replicate 64 0), []⟩
/-- A net with no links yet. -/
theorem NetAt.blank (w : World) (P : Nat) (hP : P < 18446744073709551616) (B : Nat) (hB : B ≤ w.heap.size) : NetAt (w.alloc (.cells (({ procs := P, links := List.replicate 64 0, rows := [] } : Nt).cells (.slice none 0 0)).toArray 56)) w.heap.size B { procs := P, links := List.replicate 64 0, rows := [] } none 0 where
  own := Own.new w _ _
  row := World.ownsRow_nil _ _ _ _
  base := hB
  len := rfl
  pr := hP
  lk := fun a ha => by rw [List.eq_of_mem_replicate ha]; decide
  ok := fun d hd => by cases hd
  few := Nat.zero_le _
set_option maxHeartbeats 2000000 in
set_option maxRecDepth 100000 in
theorem nnew (n : Int) (w : World) (h0 : -9223372036854775808 ≤ n) (h1 : n ≤ 9223372036854775807) :
    Calls Try.prog 9 #[.int .i64 n] w fun e w' => e = .returned (.pointer (some ⟨w.heap.size, 0, none⟩)) ∧ NetAt w' w.heap.size w.heap.size (newN n) none 0 ∧ Below w.heap.size w w' := by
  have hP := below_lt n
  have H0 := Lib.hid (NetAt.blank w (below n) hP w.heap.size (Nat.le_refl _))
  have HA := all_any n w h0 h1
  have HD := Lib.hid (show newN n = { procs := below n, links := healL (below n) (List.replicate 64 0), rows := [] } from rfl)
  generalize below n = P at *
  have hz := zeroN
  go_enter Try.func9, Try.ntmps9
  go_wp2_with (first | (go_at_call 24; refine HA.mono ?_; rintro e w' ⟨rfl, rfl⟩) | (go_at_call 17; refine (nheal H0.out).mono ?_; rintro e w1 ⟨rfl, A, m⟩))
  have hB : Go.RowKit.Below w.heap.size w w1 := ((Below.refl _ w).alloc (Nat.le_refl _) _).trans (m.below H0.out (Nat.le_refl _))
  go_ret
  exact ⟨rfl, by rw [HD.out]; exact A, hB⟩
theorem NetAt.datum {w : World} {g B : Nat} {N : Nt} {ao : Option Addr} {cap : Nat} (h : NetAt w g B N ao cap) (k : Nat) (d : Dg) (hk : N.rows[k]? = some d) : ∃ b, ao = some ⟨b, 0, none⟩ ∧ B ≤ b ∧ b < w.heap.size ∧ b ≠ g ∧ N.rows.length ≤ cap ∧
    w.cell? ⟨b, k * 4, none⟩ = some (.int .i64 d.frm) ∧ w.cell? ⟨b, k * 4 + 1, none⟩ = some (.int .i64 d.to) ∧ w.cell? ⟨b, k * 4 + 2, none⟩ = some (.string d.data) ∧ w.cell? ⟨b, k * 4 + 3, none⟩ = some (.bool d.torn) := by
  rcases h.spot with ⟨rfl, _, e⟩ | ⟨b, rfl, e1, e2, e3, e4, _⟩
  · rw [e] at hk; cases hk
  · exact ⟨b, rfl, e1, e2, e3, e4, h.cell k d hk 0 _ rfl, h.cell k d hk 1 _ rfl, h.cell k d hk 2 _ rfl, h.cell k d hk 3 _ rfl⟩
set_option maxHeartbeats 1000000 in
theorem nat_yes {w : World} {g B : Nat} {N : Nt} {ao : Option Addr} {cap : Nat} (h : NetAt w g B N ao cap) (k : Nat) (d : Dg) (hk : N.rows[k]? = some d) :
    Calls Try.prog 20 #[.pointer (some ⟨g, 0, none⟩), .int .i64 (k : Nat)] w fun e w' => e = .returned (.tuple #[.agg #[.int .i64 d.frm, .int .i64 d.to, .string d.data, .bool d.torn], .bool true]) ∧ Below w.heap.size w w' := by
  have hkl := (List.getElem?_eq_some_iff.1 hk).1
  obtain ⟨b, rfl, hb1, hb2, hb3, hcap, c0, c1, c2, c3⟩ := h.datum k d hk
  have c := h.bag
  have f := h.few
  have hg := h.lt
  have HB : hasB N.rows.length (k : Int) = true := by unfold hasB; simp; exact hkl
  have M := nhas (h.below ((Below.refl w.heap.size w).alloc (Nat.le_refl _) (.cells #[.int .i64 0, .int .i64 0, .string { data := #[] }, .bool false] 28))) (k : Int) (by omega) (by omega)
  rw [HB] at M
  generalize N.rows.length = n at *
  clear h HB hk
  have Z := DgB.new w 0 0 { data := #[] } false
  have HB := Lib.hid (belowRow ((Below.refl w.heap.size w).alloc (Nat.le_refl _) (.cells #[.int .i64 0, .int .i64 0, .string { data := #[] }, .bool false] 28)) w.heap.size (Nat.le_refl _) #[.int .i64 d.frm, .int .i64 d.to, .string d.data, .bool d.torn])
  go_enter Try.func20, Try.ntmps20
  go_wp2_with (first | (go_at_call 32; refine M.mono ?_; rintro e w' ⟨rfl, rfl⟩) | (refine store_dg rfl (.tmp 4) (.tmp 17) rfl w.heap.size d.frm d.to d.data d.torn rfl rfl Z ?_))
  (try simp only [Exit.inBlock, Exit.then])
  exact bodyPost_ret (results_dg rfl _ _ w.heap.size rfl (Z.put d.frm d.to d.data d.torn)) rfl ⟨rfl, HB.out⟩
set_option maxHeartbeats 1000000 in
theorem nat_no {w : World} {g B : Nat} {N : Nt} {ao : Option Addr} {cap : Nat} (h : NetAt w g B N ao cap) (i : Int) (h0 : -9223372036854775808 ≤ i) (h1 : i ≤ 9223372036854775807) (hi : hasB N.rows.length i = false) :
    Calls Try.prog 20 #[.pointer (some ⟨g, 0, none⟩), .int .i64 i] w fun e w' => e = .returned (.tuple #[.agg #[.int .i64 0, .int .i64 0, .string { data := #[] }, .bool false], .bool false]) ∧ Below w.heap.size w w' := by
  have M := nhas (h.below ((Below.refl w.heap.size w).alloc (Nat.le_refl _) (.cells #[.int .i64 0, .int .i64 0, .string { data := #[] }, .bool false] 28))) i h0 h1
  rw [hi] at M
  clear h hi
  have Z := DgB.new w 0 0 { data := #[] } false
  have HB := Lib.hid (belowRow ((Below.refl w.heap.size w).alloc (Nat.le_refl _) (.cells #[.int .i64 0, .int .i64 0, .string { data := #[] }, .bool false] 28)) w.heap.size (Nat.le_refl _) #[.int .i64 0, .int .i64 0, .string { data := #[] }, .bool false])
  go_enter Try.func20, Try.ntmps20
  go_wp2_with (first | (go_at_call 32; refine M.mono ?_; rintro e w' ⟨rfl, rfl⟩) | (refine store_dg rfl (.tmp 4) (.tmp 10) rfl w.heap.size 0 0 { data := #[] } false rfl rfl Z ?_))
  (try simp only [Exit.inBlock, Exit.then])
  exact bodyPost_ret (results_dg rfl _ _ w.heap.size rfl (Z.put 0 0 _ _)) rfl ⟨rfl, HB.out⟩
end Go.Proofs.YtpbeohonohcgdaaR
