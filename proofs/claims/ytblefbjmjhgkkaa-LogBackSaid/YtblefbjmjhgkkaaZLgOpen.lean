/- Layer 19: what came in, opened: a stable record, an item. -/
import Derived.Test.YtblefbjmjhgkkaaZLgAwake
import Derived.Test.YtblefbjmjhgkkaaZVoOpen
set_option linter.unusedVariables false
set_option maxRecDepth 100000
set_option linter.unusedSimpArgs false
namespace Go.Proofs.Ytblefbjmjhgkkaa
open Go.ChangeShapes Go.WideShapes Go.ChangeAt Go.RowKit Go.Joins Go.Deep

/-- A stable record, and where what is pending lies. -/
structure StM where
  s : Stb
  a : Option Addr
  k : Nat
  c : Nat
structure StIn (w : World) (z : StM) : Prop where
  rc : RcIn w ⟨z.s.r, z.a, z.k, z.c⟩
  ep : z.s.ep < 18446744073709551616
  inc : z.s.inc < 4294967296
def valSt (z : StM) : Value := .agg (encS z.s z.a z.k z.c).toArray
theorem StIn.below {w w' : World} {z : StM} (h : StIn w z) (hb : Below w.heap.size w w') : StIn w' z := ⟨h.rc.below hb, h.ep, h.inc⟩
/-- An item, its text, and where what is pending lies. -/
structure ItM where
  x : Itm
  T : ByteArray
  a : Option Addr
  k : Nat
  c : Nat
structure ItIn (w : World) (z : ItM) : Prop where
  rc : RcIn w ⟨z.x.r, z.a, z.k, z.c⟩
  text : z.T.data.toList = z.x.data
  ok : z.x.ok
  few : z.T.size ≤ maxLen
def valIt (z : ItM) : Value := .agg (encI z.x z.T z.a z.k z.c).toArray
theorem ItIn.below {w w' : World} {z : ItM} (h : ItIn w z) (hb : Below w.heap.size w w') : ItIn w' z := ⟨h.rc.below hb, h.text, h.ok, h.few⟩
theorem list7o {α : Type} {l : List α} (h : l.length = 7) : ∃ a0 a1 a2 a3 a4 a5 a6, l = [a0, a1, a2, a3, a4, a5, a6] := by
  match l, h with
  | [a0, a1, a2, a3, a4, a5, a6], _ => exact ⟨a0, a1, a2, a3, a4, a5, a6, rfl⟩
theorem list11o {α : Type} {l : List α} (h : l.length = 11) : ∃ a0 a1 a2 a3 a4 a5 a6 a7 a8 a9 a10, l = [a0, a1, a2, a3, a4, a5, a6, a7, a8, a9, a10] := by
  match l, h with
  | [a0, a1, a2, a3, a4, a5, a6, a7, a8, a9, a10], _ => exact ⟨a0, a1, a2, a3, a4, a5, a6, a7, a8, a9, a10, rfl⟩
theorem list18o {α : Type} {l : List α} (h : l.length = 18) : ∃ a0 a1 a2 a3 a4 a5 a6 a7 a8 a9 a10 a11 a12 a13 a14 a15 a16 a17, l = [a0, a1, a2, a3, a4, a5, a6, a7, a8, a9, a10, a11, a12, a13, a14, a15, a16, a17] := by
  match l, h with
  | [a0, a1, a2, a3, a4, a5, a6, a7, a8, a9, a10, a11, a12, a13, a14, a15, a16, a17], _ => exact ⟨a0, a1, a2, a3, a4, a5, a6, a7, a8, a9, a10, a11, a12, a13, a14, a15, a16, a17, rfl⟩
theorem nat_u32o {z : Int} (h : (Lit.int .u32 z).wf = true) : ∃ n : Nat, z = (n : Int) ∧ n < 4294967296 := by
  have h1 : 0 ≤ z ∧ z ≤ 4294967295 := by simpa [Lit.wf, IntKind.min, IntKind.max, IntKind.signed, IntKind.bits] using h
  obtain ⟨n, rfl⟩ := Int.eq_ofNat_of_zero_le h1.1
  exact ⟨n, rfl, by omega⟩
section
variable {H : Type} {enc : TypeId × Value → H} {W : World} {B : Nat} {hd : Bool}
theorem open_stb {n : Nat} {cs : List Value} {y : DataW H × List MemPlace} (h : DataW.trod enc Try.prog W B (fun _ => true) hd n 33 cs = some y) : ∃ z : StM, cs = encS z.s z.a z.k z.c ∧ StIn W z := by
  obtain ⟨xs, k, _, rfl, hlen, hxl, hg⟩ := DataW.trod_struct Try.underlying33 h
  have hC : Try.prog.cellsOf 33 = 7 := by kernel_rfl
  have hC0 : Try.prog.cellsOf 23 = 1 := by kernel_rfl
  have hC1 : Try.prog.cellsOf 24 = 1 := by kernel_rfl
  have hC2 : Try.prog.cellsOf 31 = 5 := by kernel_rfl
  rw [hC] at hlen
  obtain ⟨c0, c1, c2, c3, c4, c5, c6, rfl⟩ := list7o hlen
  obtain ⟨y0, y1, y2, rfl⟩ := list3o hxl
  have g0 := fldo (ty := 23) (o := 0) (r := some y0) (hg 0 _ rfl) hC0 [c0] rfl
  have g1 := fldo (ty := 24) (o := 1) (r := some y1) (hg 1 _ rfl) hC1 [c1] rfl
  have g2 := fldo (ty := 31) (o := 2) (r := some y2) (hg 2 _ rfl) hC2 [c2, c3, c4, c5, c6] rfl
  obtain ⟨a, e0, _, w0⟩ := DataW.trod_int Try.underlying23 g0
  obtain ⟨b, e1, _, w1⟩ := DataW.trod_int Try.underlying24 g1
  obtain ⟨x, e2, hx, _⟩ := open_rec g2
  obtain ⟨a', rfl, ha⟩ := nat_u64 w0
  obtain ⟨b', rfl, hb⟩ := nat_u32o w1
  obtain ⟨⟨⟨vn, ve, vr, vm⟩, L⟩, pa, pk, pc⟩ := x
  unfold encRc at e2
  simp only [List.cons.injEq, and_true] at e0 e1 e2
  obtain ⟨rfl, rfl, rfl, rfl, rfl⟩ := e2
  subst e0 e1
  exact ⟨⟨⟨a', b', ⟨⟨vn, ve, vr, vm⟩, L⟩⟩, pa, pk, pc⟩, rfl, ⟨hx, ha, hb⟩⟩
theorem open_s {B0 : Nat} {v : Value} {d : DataW H} {pl : List MemPlace} (hv : Value.okWide Try.prog W .any B0 33 v) (h : DataW.Trod enc Try.prog W B (fun _ => true) hd 33 v d pl) :
    ∃ z : StM, v = valSt z ∧ StIn W z := by
  obtain ⟨cs, rfl, hsz⟩ := okWide_struct Try.underlying33 hv
  obtain ⟨fuel, hf⟩ := h
  obtain ⟨z, hcs, h1⟩ := open_stb hf
  have e : cs = (encS z.s z.a z.k z.c).toArray := by
    rw [← hcs]; simp [Value.cells]
  exact ⟨z, by rw [e]; rfl, h1⟩
theorem open_itm {n : Nat} {cs : List Value} {y : DataW H × List MemPlace} (h : DataW.trod enc Try.prog W B (fun _ => true) hd n 43 cs = some y) : ∃ z : ItM, cs = encI z.x z.T z.a z.k z.c ∧ ItIn W z := by
  obtain ⟨xs, k, _, rfl, hlen, hxl, hg⟩ := DataW.trod_struct Try.underlying43 h
  have hC : Try.prog.cellsOf 43 = 18 := by kernel_rfl
  have hI : Try.prog.cellsOf 3 = 1 := by kernel_rfl
  have hS : Try.prog.cellsOf 9 = 1 := by kernel_rfl
  have hB : Try.prog.cellsOf 4 = 1 := by kernel_rfl
  have h8 : Try.prog.cellsOf 23 = 1 := by kernel_rfl
  have h4 : Try.prog.cellsOf 24 = 1 := by kernel_rfl
  have hR : Try.prog.cellsOf 31 = 5 := by kernel_rfl
  have hV : Try.prog.cellsOf 28 = 4 := by kernel_rfl
  rw [hC] at hlen
  obtain ⟨c0, c1, c2, c3, c4, c5, c6, c7, c8, c9, c10, c11, c12, c13, c14, c15, c16, c17, rfl⟩ := list18o hlen
  obtain ⟨y0, y1, y2, y3, y4, y5, y6, y7, y8, y9, y10, rfl⟩ := list11o hxl
  have g0 := fldo (ty := 3) (o := 0) (r := some y0) (hg 0 _ rfl) hI [c0] rfl
  have g1 := fldo (ty := 9) (o := 1) (r := some y1) (hg 1 _ rfl) hS [c1] rfl
  have g2 := fldo (ty := 24) (o := 2) (r := some y2) (hg 2 _ rfl) h4 [c2] rfl
  have g3 := fldo (ty := 23) (o := 3) (r := some y3) (hg 3 _ rfl) h8 [c3] rfl
  have g4 := fldo (ty := 4) (o := 4) (r := some y4) (hg 4 _ rfl) hB [c4] rfl
  have g5 := fldo (ty := 4) (o := 5) (r := some y5) (hg 5 _ rfl) hB [c5] rfl
  have g6 := fldo (ty := 31) (o := 6) (r := some y6) (hg 6 _ rfl) hR [c6, c7, c8, c9, c10] rfl
  have g7 := fldo (ty := 28) (o := 11) (r := some y7) (hg 7 _ rfl) hV [c11, c12, c13, c14] rfl
  have g8 := fldo (ty := 23) (o := 15) (r := some y8) (hg 8 _ rfl) h8 [c15] rfl
  have g9 := fldo (ty := 3) (o := 16) (r := some y9) (hg 9 _ rfl) hI [c16] rfl
  have g10 := fldo (ty := 3) (o := 17) (r := some y10) (hg 10 _ rfl) hI [c17] rfl
  obtain ⟨kk, e0, _, _⟩ := DataW.trod_int Try.underlying3 g0
  obtain ⟨T, e1, _, hT⟩ := DataW.trod_string Try.underlying9 g1
  obtain ⟨i, e2, _, w2⟩ := DataW.trod_int Try.underlying24 g2
  obtain ⟨hh, e3, _, w3⟩ := DataW.trod_int Try.underlying23 g3
  obtain ⟨b4, e4, _⟩ := DataW.trod_bool Try.underlying4 g4
  obtain ⟨b5, e5, _⟩ := DataW.trod_bool Try.underlying4 g5
  obtain ⟨x, e6, hx, _⟩ := open_rec g6
  obtain ⟨v, e7, hv⟩ := open_vw g7
  obtain ⟨nn, e8, _, w8⟩ := DataW.trod_int Try.underlying23 g8
  obtain ⟨ii, e9, _, _⟩ := DataW.trod_int Try.underlying3 g9
  obtain ⟨tt, e10, _, _⟩ := DataW.trod_int Try.underlying3 g10
  obtain ⟨i', rfl, hi⟩ := nat_u32o w2
  obtain ⟨h', rfl, hhn⟩ := nat_u64 w3
  obtain ⟨n', rfl, hn⟩ := nat_u64 w8
  obtain ⟨⟨⟨vn, ve, vr, vm⟩, L⟩, pa, pk, pc⟩ := x
  obtain ⟨un, ue, ur, um⟩ := v
  unfold encRc at e6
  unfold encV at e7
  simp only [List.cons.injEq, and_true] at e0 e1 e2 e3 e4 e5 e6 e7 e8 e9 e10
  obtain ⟨rfl, rfl, rfl, rfl, rfl⟩ := e6
  obtain ⟨rfl, rfl, rfl, rfl⟩ := e7
  subst e0 e1 e2 e3 e4 e5 e8 e9 e10
  exact ⟨⟨⟨kk, T.data.toList, i', h', b4, b5, ⟨⟨vn, ve, vr, vm⟩, L⟩, ⟨un, ue, ur, um⟩, n', ii, tt⟩, T, pa, pk, pc⟩, rfl, ⟨hx, rfl, ⟨hi, hhn, hx.ok, hv, hn⟩, hT⟩⟩
theorem open_x {B0 : Nat} {v : Value} {d : DataW H} {pl : List MemPlace} (hv : Value.okWide Try.prog W .any B0 43 v) (h : DataW.Trod enc Try.prog W B (fun _ => true) hd 43 v d pl) :
    ∃ z : ItM, v = valIt z ∧ ItIn W z := by
  obtain ⟨cs, rfl, hsz⟩ := okWide_struct Try.underlying43 hv
  obtain ⟨fuel, hf⟩ := h
  obtain ⟨z, hcs, h1⟩ := open_itm hf
  have e : cs = (encI z.x z.T z.a z.k z.c).toArray := by
    rw [← hcs]; simp [Value.cells]
  exact ⟨z, by rw [e]; rfl, h1⟩
end
end Go.Proofs.Ytblefbjmjhgkkaa
