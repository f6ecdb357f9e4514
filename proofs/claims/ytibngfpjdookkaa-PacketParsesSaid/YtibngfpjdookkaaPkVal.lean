/- A packet's twenty-two cells. -/
import Derived.Test.YtibngfpjdookkaaRdLists
set_option linter.unusedVariables false
set_option linter.unusedSimpArgs false
namespace Go.Proofs.Ytibngfpjdookkaa
open Go.RowKit Go.Sort

def encP (p : Pk) (T : ByteArray) (vd vg vx : Vc) : List Value :=
  [.int .i64 p.kind, .int .i64 p.frm, .int .i64 p.to, .int .u64 (p.conf.e : Int), .int .i64 p.conf.r,
   .int .i64 p.m.f, .int .u32 (p.m.q : Int), .int .u64 (p.m.s : Int), .int .i64 p.m.v, .slice vd.a vd.n vd.c, .string T,
   .int .u64 (p.stamp : Int), .int .u32 (p.sent : Int), .slice vg.a vg.n vg.c, .int .u64 (p.hor : Int), .int .i64 p.whom, .int .u32 (p.seq : Int), .int .u64 (p.mem : Int),
   .int .u64 (p.prom.e : Int), .int .i64 p.prom.r, .int .u64 (p.epoch : Int), .slice vx.a vx.n vx.c]
theorem encP_length (p : Pk) (T : ByteArray) (vd vg vx : Vc) : (encP p T vd vg vx).length = 22 := rfl
theorem encP_one (p : Pk) (T : ByteArray) (vd vg vx : Vc) : (encP p T vd vg vx).toArray.all (·.oneCell') = true := by simp [encP, Value.oneCell']
theorem packet_size : (Try.prog.info? 35).map (·.size) = some 22 := by kernel_rfl
/-- A packet that reads so. -/
structure PkAt (w : World) (p : Pk) (T : ByteArray) (vd vg vx : Vc) : Prop where
  text : T.data.toList = p.m.text
  deps : VecAt w vd p.m.deps
  got : VecAt w vg p.got
  xs : XsAt w vx p.x
/-- A packet whose lists are a call's own. -/
structure OwnPk (B : Nat) (w : World) (p : Pk) (T : ByteArray) (vd vg vx : Vc) : Prop where
  text : T.data.toList = p.m.text
  deps : OwnVec B w vd p.m.deps
  got : OwnVec B w vg p.got
  xs : OwnXs B w vx p.x
theorem OwnPk.at_ {B : Nat} {w : World} {p : Pk} {T : ByteArray} {vd vg vx : Vc} (h : OwnPk B w p T vd vg vx) : PkAt w p T vd vg vx := ⟨h.text, h.deps.at_, h.got.at_, h.xs.at_⟩
theorem PkAt.below {w w' : World} {p : Pk} {T : ByteArray} {vd vg vx : Vc} (h : PkAt w p T vd vg vx) (hb : Below w.heap.size w w') : PkAt w' p T vd vg vx := ⟨h.text, h.deps.below hb, h.got.below hb, h.xs.below hb⟩
theorem OwnPk.below {B : Nat} {w w' : World} {p : Pk} {T : ByteArray} {vd vg vx : Vc} (h : OwnPk B w p T vd vg vx) (hb : Below w.heap.size w w') : OwnPk B w' p T vd vg vx := ⟨h.text, h.deps.below hb, h.got.below hb, h.xs.below hb⟩
theorem OwnPk.grown {B r : Nat} {w w' : World} {p : Pk} {T : ByteArray} {vd vg vx : Vc} (h : OwnPk B w p T vd vg vx) (hg : w.grownBy w' (some r)) (hr : r < B) : OwnPk B w' p T vd vg vx := ⟨h.text, h.deps.grown hg hr, h.got.grown hg hr, h.xs.grown hg hr⟩
theorem OwnPk.mono {B B' : Nat} {w : World} {p : Pk} {T : ByteArray} {vd vg vx : Vc} (h : OwnPk B w p T vd vg vx) (hB : B' ≤ B) : OwnPk B' w p T vd vg vx := ⟨h.text, h.deps.mono hB, h.got.mono hB, h.xs.mono hB⟩
theorem OwnXs.set {B : Nat} {w : World} {v : Vc} {l : List PX} (h : OwnXs B w v l) {g : Nat} (hg : g < B) (j : Nat) (x : Value) : OwnXs B (w.setCell ⟨g, j, none⟩ x) v l :=
  ⟨h.len, h.cells.imp id fun ⟨g', cur, e, hB, ho, hc⟩ => ⟨g', cur, e, hB, ho.set_other _ _ _ (by omega), fun j x hj => by obtain ⟨vc, hv, hu⟩ := hc j x hj; exact ⟨vc, hv.set hg _ _, hu⟩⟩⟩
theorem OwnPk.set {B : Nat} {w : World} {p : Pk} {T : ByteArray} {vd vg vx : Vc} (h : OwnPk B w p T vd vg vx) {g : Nat} (hg : g < B) (j : Nat) (x : Value) : OwnPk B (w.setCell ⟨g, j, none⟩ x) p T vd vg vx := ⟨h.text, h.deps.set hg j x, h.got.set hg j x, h.xs.set hg j x⟩
/-- The packet of nothing yet. -/
def zeroP : Pk := baseP 0 0 0
def zeroPv : Array Value := (encP zeroP { data := #[] } Vc.nil Vc.nil Vc.nil).toArray
theorem OwnPk.base (B : Nat) (w : World) (k f t : Int) : OwnPk B w (baseP k f t) { data := #[] } Vc.nil Vc.nil Vc.nil := ⟨rfl, OwnVec.nil _ _, OwnVec.nil _ _, OwnXs.nil _ _⟩

theorem store_packet {ops : Array Oper} {rest : List Oper} {o : Oper} {a : Act} {w : World} {Q : Exit → Act → World → Prop} (hgd : o.guard = none) (x y : Operand) (ho : o.op = .store 35 x y)
    (g : Nat) {p : Pk} {T : ByteArray} {vd vg vx : Vc} (hx : a.eval x = .pointer (some ⟨g, 0, none⟩)) (hy : a.eval y = .agg (encP p T vd vg vx).toArray)
    {p0 : Pk} {T0 : ByteArray} {vd0 vg0 vx0 : Vc} (hg : Own w g 35 (encP p0 T0 vd0 vg0 vx0).toArray)
    (h : wpList Try.prog ops Q rest (a.put o.dst undef) (w.setRow g (encP p T vd vg vx).toArray)) : wpList Try.prog ops Q (o :: rest) a w :=
  wpList_store_row hgd 35 x y ho g _ hx hy 35 _ hg packet_size rfl (encP_one _ _ _ _ _) h
theorem load_packet {ops : Array Oper} {rest : List Oper} {o : Oper} {a : Act} {w : World} {Q : Exit → Act → World → Prop} (hgd : o.guard = none) (x : Operand) (ho : o.op = .load 35 x)
    (g : Nat) (hx : a.eval x = .pointer (some ⟨g, 0, none⟩)) {p : Pk} {T : ByteArray} {vd vg vx : Vc} (hg : Own w g 35 (encP p T vd vg vx).toArray)
    (h : wpList Try.prog ops Q rest (a.put o.dst (.agg (encP p T vd vg vx).toArray)) w) : wpList Try.prog ops Q (o :: rest) a w :=
  wpList_load_row hgd 35 x ho g hx 35 _ _ _ hg Try.underlying35 rfl packet_size h
theorem results_packet {fn : Func} {p : Tmp} (h : fn.results = #[.cell p 35]) (tmps : Array Value) (w : World) (g : Nat) {q : Pk} {T : ByteArray} {vd vg vx : Vc}
    (hp : tmps.getD p undef = .pointer (some ⟨g, 0, none⟩)) (hg : Own w g 35 (encP q T vd vg vx).toArray) :
    (results fn tmps).run Try.prog w = .ok (.agg (encP q T vd vg vx).toArray) w :=
  results_cell_row h tmps w g 35 _ (0, 0) _ hp hg Try.underlying35 rfl packet_size
theorem Own.row {w : World} {g : Nat} {ty : TypeId} {cs : Array Value} (h : Own w g ty cs) (cs' : Array Value) : Own (w.setRow g cs') g ty cs' := setRow_heap w g cs cs' ty _ h
theorem Own.row_other {w : World} {g k : Nat} {ty : TypeId} {cs : Array Value} (h : Own w g ty cs) (cs' : Array Value) (hk : g ≠ k) : Own (w.setRow k cs') g ty cs := (setRow_other w k g cs' hk).trans h
theorem grown_row {a w : World} {b g : Nat} (h : a.grownBy w (some b)) (hg : a.heap.size ≤ g) (cs : Array Value) : a.grownBy (w.setRow g cs) (some b) :=
  ⟨h.os, h.tape, h.output, by rw [size_setRow]; exact h.size, fun k hk hn => (setRow_other w g k cs (by omega)).trans (h.block k hk hn)⟩
theorem Rd.row {w : World} {b : Nat} {s : ByteArray} {a : Nat} (h : Rd w b s a) {g : Nat} (hg : g ≠ b) (cs : Array Value) : Rd (w.setRow g cs) b s a := by
  have e := setRow_other w g b cs (fun e => hg e.symm)
  exact ⟨(World.cell?_of_block e).trans h.text, (World.cell?_of_block e).trans h.place, (World.frozen?_of_block e).trans h.free, h.size, h.in_⟩
theorem OwnVec.row {B : Nat} {w : World} {v : Vc} {l : List Nat} (h : OwnVec B w v l) {g : Nat} (hg : g < B) (cs : Array Value) : OwnVec B (w.setRow g cs) v l :=
  ⟨h.len, h.cells.imp id fun ⟨g', cur, e, hB, ho, hc⟩ => ⟨g', cur, e, hB, ho.row_other _ (by omega), hc⟩, h.words⟩
theorem OwnXs.row {B : Nat} {w : World} {v : Vc} {l : List PX} (h : OwnXs B w v l) {g : Nat} (hg : g < B) (cs : Array Value) : OwnXs B (w.setRow g cs) v l :=
  ⟨h.len, h.cells.imp id fun ⟨g', cur, e, hB, ho, hc⟩ => ⟨g', cur, e, hB, ho.row_other _ (by omega), fun j x hj => by obtain ⟨vc, hv, hu⟩ := hc j x hj; exact ⟨vc, hv.row hg _, hu⟩⟩⟩
theorem OwnPk.row {B : Nat} {w : World} {p : Pk} {T : ByteArray} {vd vg vx : Vc} (h : OwnPk B w p T vd vg vx) {g : Nat} (hg : g < B) (cs : Array Value) : OwnPk B (w.setRow g cs) p T vd vg vx := ⟨h.text, h.deps.row hg cs, h.got.row hg cs, h.xs.row hg cs⟩
end Go.Proofs.Ytibngfpjdookkaa
