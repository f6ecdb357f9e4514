/- An attempt in memory: its block, its map, its exchanges' counts. -/
import Derived.Test.YtmaiphgmnammgaaDoorZGaMath
import Derived.Test.YtmaiphgmnammgaaDoorZPops
import Derived.Shelf.SlMaps.Clone
import Derived.BigRegion
set_option linter.unusedVariables false
set_option maxRecDepth 100000
set_option linter.unusedSimpArgs false
namespace Go.Proofs.YtmaiphgmnammgaaDoor
open Go.RowKit Go.Sort Go.Maps

/-- An exchange's value. -/
def encXv (x : Xg) : Value := .agg (encXg x).toArray
def zeroX : Xg := ⟨0, 0, 0, none, 0, 0, [], ⟨0, 0⟩⟩
theorem zeroXv (w : World) : (zeroValue 38).run Tryd.prog w = .ok (encXv zeroX) w := by kernel_rfl
theorem mapX : Tryd.prog.underlying 69 = some (.map 3 38) := Tryd.underlying69
/-- An exchange whose counts lie in a block of numbers. -/
structure XT (w : World) (x : Xg) : Prop where
  at_ : Lst (fun n : Int => [.int .u32 n]) 1 w x.a x.n x.cnt
  few : x.n ≤ 35184372087808
  u32 : ∀ v ∈ x.cnt, 0 ≤ v ∧ v < 4294967296
  typ : ∀ ad, x.a = some ad → ∃ cur, w.heap[ad.block]? = some (.cells cur 52 (0, 0))
theorem lst_moved {w w' : World} {a : Option Addr} {n : Nat} {l : List Int} (h : Lst (fun n : Int => [.int .u32 n]) 1 w a n l) (hb : ∀ ad, a = some ad → w'.heap[ad.block]? = w.heap[ad.block]?) : Lst (fun n : Int => [.int .u32 n]) 1 w' a n l := by
  refine ⟨h.size, fun h0 => ?_⟩
  obtain ⟨b, o, e, R⟩ := h.src h0
  exact ⟨b, o, e, fun i y hy c v hv => (World.cell?_of_block (a := ⟨b, o + i * 1 + c, none⟩) (by exact hb ⟨b, o, none⟩ e)).trans (R i y hy c v hv)⟩
section
variable {w w' : World} {x : Xg}
theorem XT.kept (h : XT w x) (hb : ∀ ad, x.a = some ad → w'.heap[ad.block]? = w.heap[ad.block]?) : XT w' x :=
  ⟨lst_moved h.at_ hb, h.few, h.u32, fun ad e => by obtain ⟨cur, hc⟩ := h.typ ad e; exact ⟨cur, (hb ad e).trans hc⟩⟩
theorem XT.lt (h : XT w x) (ad : Addr) (e : x.a = some ad) : ad.block < w.heap.size := by
  obtain ⟨cur, hc⟩ := h.typ ad e
  exact (Array.getElem?_eq_some_iff.1 hc).1
theorem XT.below (h : XT w x) (hb : Below w.heap.size w w') : XT w' x := h.kept fun ad e => hb.block _ (h.lt ad e)
theorem XT.ne (h : XT w x) (ad : Addr) (e : x.a = some ad) {b : Nat} {cur : Array Value} {t : TypeId} (hb : w.heap[b]? = some (.cells cur t (0, 0))) (ht : t ≠ 52) : ad.block ≠ b := by
  rintro rfl
  obtain ⟨cur', hc⟩ := h.typ ad e
  have := hc.symm.trans hb
  injection this with e1
  injection e1 with _ e2 _
  exact ht e2.symm
theorem XT.ne_map (h : XT w x) (ad : Addr) (e : x.a = some ad) {b : Nat} (hb : ∃ es c, w.heap[b]? = some (.map es c)) : ad.block ≠ b := by
  rintro rfl
  obtain ⟨cur', hc⟩ := h.typ ad e
  obtain ⟨es, c, hm⟩ := hb
  have := hc.symm.trans hm
  injection this with e1
  cases e1
end
/-- An attempt. -/
structure GtB (w : World) (g mb : Nat) (S : Gt) : Prop where
  blk : Own w g 71 #[.int .u64 S.e, .int .i64 S.r, .int .u64 (S.M : Int), .map (some mb), .int .u64 (S.Y : Int)]
  map : MapI encXv w mb S.H S.n
  xs : ∀ k x, S.H k = some x → XT w x
  ok : GtOk S
section
variable {w w' : World} {g mb g2 mb2 : Nat} {S S2 : Gt}
theorem GtB.lt (h : GtB w g mb S) : g < w.heap.size := h.blk.lt
theorem GtB.later (h : GtB w g mb S) (hb : Below w.heap.size w w') : GtB w' g mb S :=
  ⟨h.blk.below hb h.lt, h.map.below hb, fun k x hx => (h.xs k x hx).below hb, h.ok⟩
theorem GtB.ne (h : GtB w g mb S) : g ≠ mb := by
  rintro rfl
  obtain ⟨es, c, hm⟩ := h.map.is
  have := h.blk.is.symm.trans hm
  injection this with e1
  cases e1
theorem GtB.c0 (h : GtB w g mb S) : w.cell? ⟨g, 0, none⟩ = some (.int .u64 S.e) := h.blk.at_ 0 _ rfl
theorem GtB.c1 (h : GtB w g mb S) : w.cell? ⟨g, 1, none⟩ = some (.int .i64 S.r) := h.blk.at_ 1 _ rfl
theorem GtB.c2 (h : GtB w g mb S) : w.cell? ⟨g, 2, none⟩ = some (.int .u64 (S.M : Int)) := h.blk.at_ 2 _ rfl
theorem GtB.c3 (h : GtB w g mb S) : w.cell? ⟨g, 3, none⟩ = some (.map (some mb)) := h.blk.at_ 3 _ rfl
theorem GtB.c4 (h : GtB w g mb S) : w.cell? ⟨g, 4, none⟩ = some (.int .u64 (S.Y : Int)) := h.blk.at_ 4 _ rfl
/-- Its block is laid anew: more are ready. -/
theorem GtB.setY (h : GtB w g mb S) (y : Nat) (ok : GtOk { S with Y := y }) : GtB (w.setCell ⟨g, 4, none⟩ (.int .u64 (y : Int))) g mb { S with Y := y } := by
  have hk : ∀ i, i ≠ g → (w.setCell ⟨g, 4, none⟩ (.int .u64 (y : Int))).heap[i]? = w.heap[i]? := fun i hi => heap_setCell_other w ⟨g, 4, none⟩ i _ hi
  exact ⟨h.blk.set 4 _, h.map.kept (hk mb fun e => h.ne e.symm), fun k x hx => (h.xs k x hx).kept fun ad e => hk _ ((h.xs k x hx).ne ad e h.blk.is (by decide)), ok⟩
/-- Its map has turned. -/
theorem GtB.setH (h : GtB w g mb S) {H : Int → Option Xg} {n : Nat} (hm : MapI encXv w' mb H n) (ht : w.mapTurned w' mb) (hx : ∀ k x, H k = some x → XT w x) (ok : GtOk { S with H := H, n := n }) : GtB w' g mb { S with H := H, n := n } := by
  have hg := ht.grown
  refine ⟨(hg.block g h.lt fun e => by injection e with e; exact h.ne e).trans h.blk, hm, fun k x hx' => (hx k x hx').kept fun ad e => hg.block _ ((hx k x hx').lt ad e) fun e2 => ?_, ok⟩
  injection e2 with e2
  exact (hx k x hx').ne_map ad e h.map.is e2
/-- Another one stands beside it. -/
theorem GtB.beside (h : GtB w g mb S) (h2 : GtB w g2 mb2 S2) (hg : g2 ≠ g) (hm : mb2 ≠ mb) (hc : Chg (fun k => k = g ∨ k = mb) w w') : GtB w' g2 mb2 S2 := by
  have hgm : g2 ≠ mb := by
    rintro rfl
    obtain ⟨es, c, hm⟩ := h.map.is
    have := h2.blk.is.symm.trans hm
    injection this with e1
    cases e1
  have hmg : mb2 ≠ g := by
    rintro rfl
    obtain ⟨es, c, hm⟩ := h2.map.is
    have := h.blk.is.symm.trans hm
    injection this with e1
    cases e1
  exact ⟨(hc.block g2 h2.lt fun e => e.elim hg hgm).trans h2.blk, h2.map.kept (hc.block mb2 h2.map.lt fun e => e.elim hmg hm), fun k x hx => (h2.xs k x hx).kept fun ad e => hc.block _ ((h2.xs k x hx).lt ad e) fun e2 => e2.elim ((h2.xs k x hx).ne ad e h.blk.is (by decide)) ((h2.xs k x hx).ne_map ad e h.map.is), h2.ok⟩
end
/-! ### What is told of one -/
section
variable {w : World} {g mb : Nat} {S : Gt}
theorem gid (h : GtB w g mb S) : Calls Tryd.prog 24 #[.pointer (some ⟨g, 0, none⟩)] w fun e w' => e = .returned (.agg #[.int .u64 S.e, .int .i64 S.r]) ∧ Below w.heap.size w w' := by
  have hg := h.lt
  have hb := ((Grw.refl w).alloc (.cells #[.int .u64 0, .int .i64 0] 24)).below
  have c0 := (h.later hb).c0
  have c1 := (h.later hb).c1
  have G := Lib.hid ((Grw.refl w).alloc (.cells #[.int .u64 S.e, .int .i64 S.r] 24)).below
  have hne : g ≠ w.heap.size := by omega
  generalize S.e = a at *
  generalize S.r = b at *
  clear h hb
  go_enter Tryd.func24, Tryd.ntmps24
  go_wp2
  exact bodyPost_ret (v := .agg #[.int .u64 a, .int .i64 b]) (by simp [results, Tryd.results24, go_sem]) rfl ⟨rfl, G.out⟩
theorem gmembers (h : GtB w g mb S) : Calls Tryd.prog 25 #[.pointer (some ⟨g, 0, none⟩)] w fun e w' => e = .returned (.int .u64 (S.M : Int)) ∧ w = w' := by
  have c2 := h.c2
  clear h
  go_enter Tryd.func25, Tryd.ntmps25
  go_wp2
  go_ret
  exact ⟨rfl, rfl⟩
theorem gdone (h : GtB w g mb S) : Calls Tryd.prog 18 #[.pointer (some ⟨g, 0, none⟩)] w fun e w' => e = .returned (.bool (doneG S)) ∧ Below w.heap.size w w' := by
  have c2 := h.c2
  have c4 := h.c4
  have hd : ((S.Y : Int) == (S.M : Int)) = doneG S := by
    unfold doneG
    by_cases e : S.Y = S.M
    · rw [e]; simp
    · rw [decide_eq_false e]; simp; omega
  generalize S.Y = y at *
  generalize S.M = m at *
  generalize doneG S = d at *
  clear h
  go_enter Tryd.func18, Tryd.ntmps18
  go_upto_region 1 with fail
  go_quiet (fail)
  have HB := Lib.hid ((Grw.refl w).drewN nq).below
  go_wp2
  go_ret
  exact ⟨rfl, HB.out⟩
theorem gtold (h : GtB w g mb S) : Calls Tryd.prog 16 #[.pointer (some ⟨g, 0, none⟩)] w fun e w' => e = .returned (.bool (toldG S)) ∧ Below w.heap.size w w' := by
  have c2 := h.c2
  have c3 := h.c3
  have hlen := fun (w' : World) (hb : w'.heap[mb]? = w.heap[mb]?) => (h.map.kept hb).len mapX
  have PS := fun n => size_any S.M (w.drewN n) h.ok.m
  have hd : ((S.n : Int) == (card S.M : Int)) = toldG S := by
    unfold toldG
    by_cases e : S.n = card S.M
    · rw [e]; simp
    · rw [decide_eq_false e]; simp; omega
  have hlen2 := fun n ty => hlen (w.drewN n) rfl ty
  obtain ⟨cd, hcd⟩ : ∃ cd, cd = card S.M := ⟨_, rfl⟩
  rw [← hcd] at PS hd
  generalize S.n = nn at *
  generalize S.M = m at *
  generalize toldG S = d at *
  clear h hlen hcd
  go_enter Tryd.func16, Tryd.ntmps16
  go_upto_region 1 with fail
  go_quiet ((go_at_call 32; exact Calls.quiet_of_same ((PS _).mono fun _ _ ⟨he, hw⟩ => ⟨he, hw.symm⟩)))
  have HB := Lib.hid ((Grw.refl w).drewN nq).below
  go_wp2
  go_ret
  exact ⟨rfl, HB.out⟩
end
end Go.Proofs.YtmaiphgmnammgaaDoor
