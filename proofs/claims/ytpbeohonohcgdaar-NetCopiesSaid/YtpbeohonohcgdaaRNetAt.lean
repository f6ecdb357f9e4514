/- A net in memory: its own block of 66 cells, its row of datagrams. -/
import Derived.Test.YtpbeohonohcgdaaRFlat
import Derived.Test.YtpbeohonohcgdaaRSetList
import Derived.BigRegion
set_option linter.unusedVariables false
set_option linter.unusedSimpArgs false
namespace Go.Proofs.YtpbeohonohcgdaaR
open Go.RowKit Go.Sort

/-- A datagram. -/
structure Dg where
  frm : Int
  to : Int
  data : ByteArray
  torn : Bool
def encD (d : Dg) : List Value := [.int .i64 d.frm, .int .i64 d.to, .string d.data, .bool d.torn]
theorem encD_length (d : Dg) : (encD d).length = 4 := rfl
theorem encD_one (d : Dg) : ∀ u ∈ encD d, u.oneCell' = true := by
  intro u hu
  simp only [encD, List.mem_cons, List.not_mem_nil, or_false] at hu
  rcases hu with rfl | rfl | rfl | rfl <;> rfl
theorem flatD_one {l : List Dg} : ∀ u ∈ flat encD l, u.oneCell' = true := by
  intro u hu
  unfold flat at hu
  obtain ⟨c, hc, huc⟩ := List.mem_flatten.1 hu
  obtain ⟨m, _, rfl⟩ := List.mem_map.1 hc
  exact encD_one m u huc
structure Dg.ok (d : Dg) : Prop where
  f0 : -9223372036854775808 ≤ d.frm
  f1 : d.frm ≤ 9223372036854775807
  t0 : -9223372036854775808 ≤ d.to
  t1 : d.to ≤ 9223372036854775807
  sz : d.data.size ≤ maxLen

/-- A net: its processes, of each process those that it is linked with, the datagrams. -/
structure Nt where
  procs : Nat
  links : List Nat
  rows : List Dg
def cellsU (l : List Nat) : List Value := l.map fun (p : Nat) => Value.int .u64 (p : Int)
def Nt.cells (N : Nt) (v : Value) : List Value := .int .u64 (N.procs : Int) :: (cellsU N.links ++ [v])
def zeroD : Value := .agg #[.int .i64 0, .int .i64 0, .string { data := #[] }, .bool false]
theorem infoD : (Try.prog.info? 28).map (fun i => (i.zero, i.size, i.bytes)) = some (some zeroD, 4, 40) := by kernel_rfl

structure NetAt (w : World) (g B : Nat) (N : Nt) (ao : Option Addr) (cap : Nat) : Prop where
  own : Own w g 56 (N.cells (.slice ao N.rows.length cap)).toArray
  row : w.ownsRow B 28 4 (.slice ao N.rows.length cap) N.rows.length (flat encD N.rows)
  base : B ≤ g
  len : N.links.length = 64
  pr : N.procs < 18446744073709551616
  lk : ∀ a ∈ N.links, a < 18446744073709551616
  ok : ∀ d ∈ N.rows, d.ok
  few : N.rows.length ≤ 4096
theorem NetAt.lt {w : World} {g B : Nat} {N : Nt} {ao : Option Addr} {cap : Nat} (h : NetAt w g B N ao cap) : g < w.heap.size := h.own.lt
theorem NetAt.procs {w : World} {g B : Nat} {N : Nt} {ao : Option Addr} {cap : Nat} (h : NetAt w g B N ao cap) : w.cell? ⟨g, 0, none⟩ = some (.int .u64 (N.procs : Int)) := h.own.at_ 0 _ rfl
theorem NetAt.bag {w : World} {g B : Nat} {N : Nt} {ao : Option Addr} {cap : Nat} (h : NetAt w g B N ao cap) : w.cell? ⟨g, 65, none⟩ = some (.slice ao N.rows.length cap) := by
  refine h.own.at_ 65 _ ?_
  rw [List.getElem?_toArray, Nt.cells, List.getElem?_cons_succ, List.getElem?_append_right (by simp [cellsU, h.len])]
  simp [cellsU, h.len]
theorem NetAt.link {w : World} {g B : Nat} {N : Nt} {ao : Option Addr} {cap : Nat} (h : NetAt w g B N ao cap) (p : Nat) (hp : p < 64) : w.cell? ⟨g, 1 + p, none⟩ = some (.int .u64 (N.links[p]'(by rw [h.len]; exact hp) : Nat)) := by
  refine h.own.at_ (1 + p) _ ?_
  have hl : p < N.links.length := by rw [h.len]; exact hp
  rw [List.getElem?_toArray, Nt.cells, Nat.add_comm, List.getElem?_cons_succ, List.getElem?_append_left (by simp [cellsU, hl]), cellsU, List.getElem?_map, List.getElem?_eq_getElem hl]
  rfl
theorem NetAt.free {w : World} {g B : Nat} {N : Nt} {ao : Option Addr} {cap : Nat} (h : NetAt w g B N ao cap) (j : Nat) : w.frozen? ⟨g, j, none⟩ = false := h.own.free j
/-- Where the row lies. -/
theorem NetAt.spot {w : World} {g B : Nat} {N : Nt} {ao : Option Addr} {cap : Nat} (h : NetAt w g B N ao cap) : (ao = none ∧ cap = 0 ∧ N.rows = []) ∨ ∃ b, ao = some ⟨b, 0, none⟩ ∧ B ≤ b ∧ b < w.heap.size ∧ b ≠ g ∧ N.rows.length ≤ cap ∧ cap ≤ maxLen := by
  rcases h.row.2 with ⟨h1, h2⟩ | ⟨b, c, cur, h1, h2, h3, h4, h5, _⟩
  · injection h1 with e1 e2 e3
    exact .inl ⟨e1, e3, List.eq_nil_of_length_eq_zero h2⟩
  · injection h1 with e1 e2 e3
    subst e3
    refine .inr ⟨b, e1, h2, (Array.getElem?_eq_some_iff.1 h3).1, ?_, h4, h5⟩
    rintro rfl
    have := h.own.is.symm.trans h3
    injection this with e
    injection e with _ e _
    exact absurd e (by decide)
theorem NetAt.cell {w : World} {g B : Nat} {N : Nt} {b cap : Nat} (h : NetAt w g B N (some ⟨b, 0, none⟩) cap) (i : Nat) (d : Dg) (hd : N.rows[i]? = some d) (c : Nat) (v : Value) (hv : (encD d)[c]? = some v) : w.cell? ⟨b, i * 4 + c, none⟩ = some v := by
  have hc : c < 4 := (List.getElem?_eq_some_iff.1 hv).1
  have hil := (List.getElem?_eq_some_iff.1 hd).1
  rw [h.row.cellAt (i * 4 + c) (by omega), flat_at encD 4 encD_length N.rows i d hd c hc]
  exact hv

/-- What a call on the net of the block g leaves of the rest. -/
structure Moved (w w' : World) (g : Nat) (ao ao' : Option Addr) : Prop where
  os : w'.os = w.os
  tape : w'.tape = w.tape
  output : w'.output = w.output
  size : w.heap.size ≤ w'.heap.size
  block : ∀ k, k < w.heap.size → k ≠ g → (∀ a, ao = some a → k ≠ a.block) → w'.heap[k]? = w.heap[k]?
  own : ∀ a, ao' = some a → (∃ a0, ao = some a0 ∧ a0.block = a.block) ∨ w.heap.size ≤ a.block
theorem Moved.refl (w : World) (g : Nat) (ao : Option Addr) : Moved w w g ao ao := ⟨rfl, rfl, rfl, Nat.le_refl _, fun _ _ _ _ => rfl, fun a h => .inl ⟨a, h, rfl⟩⟩
theorem Moved.trans {w w' w'' : World} {g : Nat} {ao ao' ao'' : Option Addr} (h : Moved w w' g ao ao') (k : Moved w' w'' g ao' ao'') : Moved w w'' g ao ao'' where
  os := k.os.trans h.os
  tape := k.tape.trans h.tape
  output := k.output.trans h.output
  size := Nat.le_trans h.size k.size
  block := fun i hi hg ha => (k.block i (Nat.lt_of_lt_of_le hi h.size) hg (fun a e => by
    rcases h.own a e with ⟨a0, e0, e1⟩ | e0
    · rw [← e1]; exact ha a0 e0
    · omega)).trans (h.block i hi hg ha)
  own := fun a e => by
    rcases k.own a e with ⟨a0, e0, e1⟩ | e0
    · rcases h.own a0 e0 with ⟨a1, e2, e3⟩ | e2
      · exact .inl ⟨a1, e2, e3.trans e1⟩
      · exact .inr (by rw [← e1]; exact e2)
    · exact .inr (Nat.le_trans h.size e0)
theorem Moved.of_below {w w' : World} (h : Below w.heap.size w w') (g : Nat) (ao : Option Addr) : Moved w w' g ao ao := ⟨h.os, h.tape, h.output, h.size, fun k hk _ _ => h.block k hk, fun a h => .inl ⟨a, h, rfl⟩⟩
theorem Moved.below {w w' : World} {g B : Nat} {N : Nt} {ao ao' : Option Addr} {cap : Nat} (m : Moved w w' g ao ao') (h : NetAt w g B N ao cap) {B' : Nat} (hB : B' ≤ B) : Below B' w w' :=
  ⟨m.os, m.tape, m.output, m.size, fun k hk => m.block k (by have := h.lt; have := h.base; omega) (by have := h.base; omega) (fun a e => by
    rcases h.spot with ⟨e1, _⟩ | ⟨b, e1, e2, _⟩
    · rw [e1] at e; cases e
    · rw [e1] at e; cases e; show k ≠ b; omega)⟩
/-- A net stays behind what leaves its blocks alone. -/
theorem NetAt.kept {w w' : World} {g B : Nat} {N : Nt} {ao : Option Addr} {cap : Nat} (h : NetAt w g B N ao cap) (hb : ∀ k, k < w.heap.size → k = g ∨ (∃ a, ao = some a ∧ k = a.block) → w'.heap[k]? = w.heap[k]?) : NetAt w' g B N ao cap where
  own := (hb g h.lt (.inl rfl)).trans h.own
  row := by
    refine ⟨h.row.1, ?_⟩
    rcases h.row.2 with h1 | ⟨b, c, cur, h1, h2, h3, h4⟩
    · exact .inl h1
    · refine .inr ⟨b, c, cur, h1, h2, (hb b (Array.getElem?_eq_some_iff.1 h3).1 (.inr ⟨⟨b, 0, none⟩, ?_, rfl⟩)).trans h3, h4⟩
      injection h1
  base := h.base
  len := h.len
  pr := h.pr
  lk := h.lk
  ok := h.ok
  few := h.few
theorem NetAt.below {w w' : World} {g B : Nat} {N : Nt} {ao : Option Addr} {cap : Nat} (h : NetAt w g B N ao cap) (hb : Below w.heap.size w w') : NetAt w' g B N ao cap := h.kept fun k hk _ => hb.block k hk
theorem NetAt.drewN {w : World} {g B : Nat} {N : Nt} {ao : Option Addr} {cap : Nat} (h : NetAt w g B N ao cap) (n : Nat) : NetAt (w.drewN n) g B N ao cap := h.kept fun k hk _ => rfl
/-- The net beside: of other blocks. -/
theorem NetAt.beside {w w' : World} {g g' B B' : Nat} {N M : Nt} {ao ao' ao'' : Option Addr} {cap : Nat} (h : NetAt w g B N ao cap) (m : Moved w w' g' ao' ao'') (h1 : g ≠ g') (h2 : ∀ a, ao' = some a → g ≠ a.block) (h3 : ∀ a, ao = some a → a.block ≠ g') (h4 : ∀ a b, ao = some a → ao' = some b → a.block ≠ b.block) : NetAt w' g B N ao cap :=
  h.kept fun k hk e => by
    rcases e with rfl | ⟨a, e1, rfl⟩
    · exact m.block _ hk h1 h2
    · exact m.block _ hk (h3 a e1) (fun b e2 => h4 a b e1 e2)

/-- Its links are others. -/
theorem NetAt.linked {w w' : World} {g B : Nat} {N : Nt} {ao : Option Addr} {cap : Nat} (h : NetAt w g B N ao cap) (L : List Nat) (hL : L.length = 64) (hl : ∀ a ∈ L, a < 18446744073709551616)
    (ho : Own w' g 56 (({ N with links := L } : Nt).cells (.slice ao N.rows.length cap)).toArray) (hb : ∀ k, k < w.heap.size → k ≠ g → w'.heap[k]? = w.heap[k]?) : NetAt w' g B { N with links := L } ao cap where
  own := ho
  row := by
    refine ⟨h.row.1, ?_⟩
    rcases h.spot with ⟨e1, e2, e3⟩ | ⟨b, e1, _, e4, e5, _⟩
    · exact .inl ⟨by show Value.slice ao N.rows.length cap = _; rw [e1, e2, e3]; rfl, by show N.rows.length = 0; rw [e3]; rfl⟩
    · rcases h.row.2 with h1 | ⟨b', c, cur, h1, h2, h3, h4⟩
      · exact .inl h1
      · have e6 : b' = b := by injection h1 with h5; rw [e1] at h5; injection h5 with h6; injection h6 with h7; exact h7.symm
        subst e6
        exact .inr ⟨b', c, cur, h1, h2, (hb b' e4 e5).trans h3, h4⟩
  base := h.base
  len := hL
  pr := h.pr
  lk := hl
  ok := h.ok
  few := h.few
end Go.Proofs.YtpbeohonohcgdaaR
