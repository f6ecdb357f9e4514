/- The document's attempt: its cells, its exchanges as they came. -/
import Derived.Test.YtmaiphgmnammgaaDoorZGaOnce
import Derived.Test.YtmaiphgmnammgaaDoorZGrKit
import Derived.StillTailTactics
set_option linter.unusedVariables false
set_option maxRecDepth 100000
set_option linter.unusedSimpArgs false
namespace Go.Proofs.YtmaiphgmnammgaaDoor
open Go.RowKit Go.Sort Go.Maps

/-- The document's attempt. -/
structure RG where
  e : Int
  r : Int
  M : Nat
  a : Option Addr
  n : Nat
  c : Nat
  L : List Xg
  Y : Nat
def encRG (R : RG) : List Value := [.int .u64 R.e, .int .i64 R.r, .int .u64 (R.M : Int), .slice R.a R.n R.c, .int .u64 (R.Y : Int)]
def encRv (R : RG) : Value := .agg (encRG R).toArray
/-- Its block. -/
def RgB (w : World) (b : Nat) (R : RG) : Prop := Own w b 33 (encRG R).toArray
section
variable {w w' : World} {b : Nat} {R : RG}
theorem RgB.own (h : RgB w b R) : Own w b 33 (encRG R).toArray := h
theorem RgB.below (h : RgB w b R) (hb : Below w.heap.size w w') : RgB w' b R := (hb.block b (Own.lt h)).trans h
theorem RgB.kept (h : RgB w b R) (hb : w'.heap[b]? = w.heap[b]?) : RgB w' b R := hb.trans h
theorem RgB.new (w : World) (R : RG) : RgB (w.alloc (.cells (encRG R).toArray 33)) w.heap.size R := Own.new w _ _
theorem RgB.rng (h : RgB w b R) : w.rangeAt b 0 (encRG R) := fun j u hj => by
  rw [Nat.zero_add]
  exact h.own.at_ j u (by rw [List.getElem?_toArray]; exact hj)
theorem RgB.c1 (h : RgB w b R) : w.cell? ⟨b, 2, none⟩ = some (.int .u64 (R.M : Int)) := h.own.at_ 2 _ rfl
theorem RgB.c2 (h : RgB w b R) : w.cell? ⟨b, 3, none⟩ = some (.slice R.a R.n R.c) := h.own.at_ 3 _ rfl
theorem RgB.c3 (h : RgB w b R) : w.cell? ⟨b, 4, none⟩ = some (.int .u64 (R.Y : Int)) := h.own.at_ 4 _ rfl
end
theorem rg_size : (Tryd.prog.info? 33).map (·.size) = some 5 := by kernel_rfl
theorem rg_one1 (m : RG) : (encRG m).toArray.all (·.oneCell') = true := by simp [encRG, Value.oneCell']
theorem load_rgm {ops : Array Oper} {rest : List Oper} {o : Oper} {A : Act} {w : World} {Q : Exit → Act → World → Prop} (hgd : o.guard = none) (x : Operand) (ho : o.op = .load 33 x)
    (b : Nat) (m : RG) (hx : A.eval x = .pointer (some ⟨b, 0, none⟩)) (hc : RgB w b m)
    (h : wpList Tryd.prog ops Q rest (A.put o.dst (encRv m)) w) : wpList Tryd.prog ops Q (o :: rest) A w :=
  wpList_load_mid hgd 33 x ho b 0 hx (encRG m) _ hc.rng Tryd.underlying33 rfl rg_size h
/-- Its exchanges in memory: what they count lies where it came from. -/
structure RgX (w0 w : World) (R : RG) : Prop where
  at_ : Lst encXg 6 w R.a R.n R.L
  typ : ∀ ad, R.a = some ad → ∃ cur, w.heap[ad.block]? = some (.cells cur 38 (0, 0))
  xs : ∀ x ∈ R.L, XI w0 x
  few : R.n ≤ 64
  m : R.M < 18446744073709551616
  y : R.Y < 18446744073709551616
  nil : R.a = none → R.c = 0
theorem RgX.moved {w0 w w' : World} {R : RG} (h : RgX w0 w R) (hb : ∀ (j : Nat) (cur : Array Value) , w.heap[j]? = some (.cells cur 38 (0, 0)) → w'.heap[j]? = w.heap[j]?) : RgX w0 w' R := by
  refine ⟨⟨h.at_.size, fun h0 => ?_⟩, fun ad e => ?_, h.xs, h.few, h.m, h.y, h.nil⟩
  · obtain ⟨b, o, e, Rr⟩ := h.at_.src h0
    obtain ⟨cur, hc⟩ := h.typ _ e
    exact ⟨b, o, e, fun i y hy c v hv => (World.cell?_of_block (a := ⟨b, o + i * 6 + c, none⟩) (by exact hb b cur hc)).trans (Rr i y hy c v hv)⟩
  · obtain ⟨cur, hc⟩ := h.typ ad e
    exact ⟨cur, (hb _ _ hc).trans hc⟩
theorem RgX.later {w0 w w' : World} {R : RG} (h : RgX w0 w R) (hb : Below w.heap.size w w') : RgX w0 w' R := h.moved fun j cur hj => hb.block j (Array.getElem?_eq_some_iff.1 hj).1
/-- The exchange of one. -/
def ofX (L : List Xg) (z : Int) : Option Xg := L.find? fun x => decide (x.w = z)
theorem ofX_mem {L : List Xg} {z : Int} {x : Xg} (h : ofX L z = some x) : x ∈ L ∧ x.w = z := by
  unfold ofX at h
  exact ⟨List.mem_of_find?_eq_some h, by have := List.find?_some h; exact of_decide_eq_true this⟩
theorem ofX_not {L : List Xg} {k : Nat} {x : Xg} {z : Int} (h : L[k]? = some x) (hn : x.w ≠ z) : ofX (L.take (k + 1)) z = ofX (L.take k) z := by
  unfold ofX
  rw [List.take_add_one, h, List.find?_append]
  simp [hn]
theorem ofX_hit {L : List Xg} {k : Nat} {x : Xg} {z : Int} (h : L[k]? = some x) (hn : x.w = z) (h0 : ofX (L.take k) z = none) : ofX L z = some x := by
  unfold ofX at *
  have hk := (List.getElem?_eq_some_iff.1 h)
  obtain ⟨hl, he⟩ := hk
  conv => lhs; rw [← List.take_append_drop k L]
  rw [List.find?_append, h0, List.drop_eq_getElem_cons hl, he]
  simp [hn]
theorem ofX_add {L : List Xg} {x : Xg} {z : Int} (hn : ofX L x.w = none) : ofX (L ++ [x]) z = if z = x.w then some x else ofX L z := by
  unfold ofX at *
  rw [List.find?_append]
  by_cases e : z = x.w
  · subst e; rw [hn, if_pos rfl]; simp
  · rw [if_neg e]
    have : ([x].find? fun y => decide (y.w = z)) = none := by simp; exact fun h => e h.symm
    rw [this]; simp
theorem results_xgp {fn : Func} {p u : Tmp} (h : fn.results = #[.cell p 38, .tmp u]) (tmps : Array Value) (w : World) (g : Nat) {m : Xg} (hp : tmps.getD p undef = .pointer (some ⟨g, 0, none⟩)) (hg : XgB w g m) :
    (results fn tmps).run Tryd.prog w = .ok (.tuple #[encXv m, tmps.getD u undef]) w := by
  rw [results_cell_tmp h, hp]
  have hl := run_loadVar_row (P := Tryd.prog) w g 38 38 _ (0, 0) _ hg Tryd.underlying38 rfl xg_size
  simp [asAddr, hl, Result.andThen, encXv]
theorem results_rgp {fn : Func} {p u : Tmp} (h : fn.results = #[.cell p 33, .tmp u]) (tmps : Array Value) (w : World) (g : Nat) {m : RG} (hp : tmps.getD p undef = .pointer (some ⟨g, 0, none⟩)) (hg : RgB w g m) :
    (results fn tmps).run Tryd.prog w = .ok (.tuple #[encRv m, tmps.getD u undef]) w := by
  rw [results_cell_tmp h, hp]
  have hl := run_loadVar_row (P := Tryd.prog) w g 33 33 _ (0, 0) _ hg Tryd.underlying33 rfl rg_size
  simp [asAddr, hl, Result.andThen, encRv]
/-- What Of answers. -/
def OfSaid (w : World) (o : Option Xg) (e : Ending) (w' : World) : Prop :=
  e = .returned (.tuple #[encXv (o.getD zeroX), .bool o.isSome]) ∧ Below w.heap.size w w'
set_option maxHeartbeats 4000000 in
theorem rof {w0 w : World} {R : RG} (h : RgX w0 w R) (z : Int) :
    Calls Tryd.prog 41 #[encRv R, .int .i64 z] w (OfSaid w (ofX R.L z)) := by
  have R1 := Lib.hid (RgB.new w R)
  have L1 := ((Grw.refl w).alloc (.cells (encRG R).toArray 33)).below
  have R2 := Lib.hid (R1.out.below ((Grw.refl _).alloc (.cells (encXg zeroX).toArray 38)).below)
  have X2 := Lib.hid (XgB.new (w.alloc (.cells (encRG R).toArray 33)) zeroX)
  have L2 := Lib.hid (L1.trans ((((Grw.refl (w.alloc (.cells (encRG R).toArray 33))).alloc (.cells (encXg zeroX).toArray 38)).below).mono L1.size))
  have HX := Lib.hid (h.at_.below L2.out)
  have hfew := h.few
  clear h L1 R1
  obtain ⟨e, r, M, a, n, c, L, Y⟩ := R
  unfold encRv encRG at *
  simp only at R2 HX hfew
  unfold encXg zeroX at X2 L2 HX R2
  simp only at X2 L2 HX R2
  go_enter Tryd.func41, Tryd.ntmps41
  go_upto_region 1 with fail
  generalize ((w.alloc (.cells #[.int .u64 e, .int .i64 r, .int .u64 (M : Int), .slice a n c, .int .u64 (Y : Int)] 33)).alloc (.cells #[.int .i64 0, .int .u64 0, .int .i64 0, .slice none 0 0, .int .u64 0, .int .i64 0] 38)) = w2 at *
  have hsz : (w.alloc (.cells #[.int .u64 e, .int .i64 r, .int .u64 (M : Int), .slice a n c, .int .u64 (Y : Int)] 33)).heap.size = w.heap.size + 1 := by simp
  rw [hsz] at X2
  obtain ⟨rb, hrb⟩ : ∃ rb, rb = w.heap.size := ⟨_, rfl⟩
  obtain ⟨xb, hxb⟩ : ∃ xb, xb = w.heap.size + 1 := ⟨_, rfl⟩
  rw [← hxb] at X2
  rw [← hrb] at R2
  try rw [← hxb]
  try rw [← hrb]
  have HNX := Lib.hid hxb
  have X3 : Hid (XgB w2 xb zeroX) := Lib.hid X2.out
  have c2 : w2.cell? ⟨rb, 3, none⟩ = some (.slice a n c) := R2.out.at_ 3 _ rfl
  have HFIN : Hid (∀ cs, Below w.heap.size w (w2.setRow xb cs)) := Lib.hid (fun cs => ⟨L2.out.os, L2.out.tape, L2.out.output, by rw [size_setRow]; exact L2.out.size, fun k hk => (setRow_other _ _ _ _ (by have := HNX.out; omega)).trans (L2.out.block k hk)⟩)
  clear hsz hrb hxb X2 R2 L2 HNX
  go_wp2_with fail
  go_loop [6] (fun si => ∃ k : Nat, k ≤ n ∧ si = .int .i64 k ∧ Hid (ofX (L.take k) z = none)) (fun si => n - (intOf si).toNat)
  case atStart => exact ⟨0, Nat.zero_le _, rfl, Lib.hid (by rw [List.take_zero]; exact (rfl : ofX [] z = none))⟩
  case round =>
    obtain ⟨k, hk, rfl, HN⟩ := hrel
    by_cases hlt : k < n
    · obtain ⟨b, o, e, hr⟩ := HX.out.src (show 0 < n by omega)
      subst e
      obtain ⟨x, hx⟩ : ∃ x, L[k]? = some x := ⟨_, List.getElem?_eq_getElem (by rw [HX.out.size]; exact hlt)⟩
      have HRX := Lib.hid (show w2.rangeAt b (o + k * 6) (encXg x) from fun j u hj => hr k x hx j u hj)
      have c0 : w2.cell? ⟨b, o + k * 6, none⟩ = some (.int .i64 x.w) := HRX.out 0 _ rfl
      have HXK := Lib.hid hx
      clear hr hx
      cases hq : (x.w == z) with
      | false =>
        have HN2 : Hid (ofX (L.take (k + 1)) z = none) := Lib.hid (by rw [ofX_not HXK.out (by simpa using hq)]; exact HN.out)
        clear HN HXK HRX
        go_wp2
        go_round
        case rel => exact ⟨k + 1, by omega, by go_num, HN2⟩
        case measure => simp [intOf]; omega
      | true =>
        have HO := Lib.hid (ofX_hit HXK.out (by simpa using hq) HN.out)
        clear HN HXK
        obtain ⟨xw, xe, xp, xa, xn, xc, xt, kn, kp⟩ := x
        go_wp2_with (first | (refine load_xgm rfl (.tmp 25) rfl b (o + k * 6) ⟨xw, xe, xp, xa, xn, xc, xt, ⟨kn, kp⟩⟩ rfl HRX.out ?_) | (refine store_xgb rfl (.tmp 4) (.tmp 26) rfl xb ⟨xw, xe, xp, xa, xn, xc, xt, ⟨kn, kp⟩⟩ rfl rfl X3.out ?_) | fail)
        (try simp only [Exit.inBlock, Exit.then])
        exact bodyPost_ret (results_xgp rfl _ _ xb rfl (X3.out.row ⟨xw, xe, xp, xa, xn, xc, xt, ⟨kn, kp⟩⟩)) rfl ⟨by rw [HO.out]; rfl, HFIN.out _⟩
    · obtain rfl : k = n := by omega
      have HO : Hid (ofX L z = none) := Lib.hid (by have := HN.out; rwa [List.take_of_length_le (by rw [HX.out.size]; exact Nat.le_refl _)] at this)
      clear HN
      go_wp2_with (first | (refine store_xgb rfl (.tmp 4) (.tmp 27) rfl xb zeroX rfl rfl X3.out ?_) | fail)
      (try simp only [Exit.inBlock, Exit.then])
      exact bodyPost_ret (results_xgp rfl _ _ xb rfl (X3.out.row zeroX)) rfl ⟨by rw [HO.out]; rfl, HFIN.out _⟩
end Go.Proofs.YtmaiphgmnammgaaDoor

/- The document's attempt: is it told, and done. -/
set_option linter.unusedVariables false
set_option maxRecDepth 100000
set_option linter.unusedSimpArgs false
namespace Go.Proofs.YtmaiphgmnammgaaDoor
open Go.RowKit Go.Sort Go.Maps

def tR (R : RG) : Bool := decide (R.n = card R.M)
def dR (R : RG) : Bool := tR R && decide (R.Y = R.M)
theorem beq_nat (a b : Nat) : ((a : Int) == (b : Int)) = decide (a = b) := by
  by_cases e : a = b
  · rw [e]; simp
  · rw [decide_eq_false e]; simp; omega
section
variable {w0 w : World} {R : RG}
set_option maxHeartbeats 1000000 in
theorem rtold (hm : R.M < 18446744073709551616) : Calls Tryd.prog 17 #[encRv R] w fun e w' => e = .returned (.bool (tR R)) ∧ Below w.heap.size w w' := by
  have R1 := RgB.new w R
  have c1 := R1.c1
  have c2 := R1.c2
  have PS := fun n => rsize R.M ((w.alloc (.cells (encRG R).toArray 33)).drewN n) hm
  have hd : ((R.n : Int) == (card R.M : Int)) = tR R := beq_nat _ _
  have HG := Lib.hid ((Grw.refl w).alloc (.cells (encRG R).toArray 33))
  obtain ⟨tb, htb⟩ : ∃ tb, tb = tR R := ⟨_, rfl⟩
  rw [← htb] at hd
  rw [← htb]
  clear htb R1
  obtain ⟨e, r, M, a, n, c, L, Y⟩ := R
  unfold encRv encRG at *
  simp only at PS hd c1 c2 HG
  obtain ⟨cd, hcd⟩ : ∃ cd, cd = card M := ⟨_, rfl⟩
  rw [← hcd] at PS hd
  clear hcd hm
  go_enter Tryd.func17, Tryd.ntmps17
  go_upto_region 1 with fail
  generalize (w.alloc (.cells #[.int .u64 e, .int .i64 r, .int .u64 (M : Int), .slice a n c, .int .u64 (Y : Int)] 33)) = w2 at *
  generalize w.heap.size = rb at *
  go_quiet ((go_at_call 43; exact Calls.quiet_of_same ((PS _).mono fun _ _ ⟨he, hw⟩ => ⟨he, hw.symm⟩)))
  have HB := Lib.hid (HG.out.drewN nq).below
  go_wp2
  go_ret
  exact ⟨rfl, HB.out⟩
set_option maxHeartbeats 1000000 in
theorem rdone (hm : R.M < 18446744073709551616) : Calls Tryd.prog 19 #[encRv R] w fun e w' => e = .returned (.bool (dR R)) ∧ Below w.heap.size w w' := by
  have R1 := Lib.hid (RgB.new w R)
  have HB1 := Lib.hid ((Grw.refl w).alloc (.cells (encRG R).toArray 33)).below
  have PT := rtold (R := R) (w := (w.alloc (.cells (encRG R).toArray 33))) hm
  have hd : ((R.Y : Int) == (R.M : Int)) = decide (R.Y = R.M) := beq_nat _ _
  have HDR := Lib.hid (show dR R = (tR R && decide (R.Y = R.M)) from rfl)
  obtain ⟨q, hq⟩ : ∃ q, q = decide (R.Y = R.M) := ⟨_, rfl⟩
  rw [← hq] at hd HDR
  obtain ⟨tb, htb⟩ : ∃ tb, tb = tR R := ⟨_, rfl⟩
  rw [← htb] at PT HDR
  rw [HDR.out]
  clear hq htb HDR hm
  obtain ⟨e, r, M, a, n, c, L, Y⟩ := R
  unfold encRv encRG at *
  simp only at hd PT R1 HB1
  go_enter Tryd.func19, Tryd.ntmps19
  go_upto_region 1 with fail
  generalize (w.alloc (.cells #[.int .u64 e, .int .i64 r, .int .u64 (M : Int), .slice a n c, .int .u64 (Y : Int)] 33)) = w2 at *
  have R2 : Hid (RgB w2 w.heap.size ⟨e, r, M, a, n, c, L, Y⟩) := Lib.hid R1.out
  clear R1
  obtain ⟨rb, hrb⟩ : ∃ rb, rb = w.heap.size := ⟨_, rfl⟩
  rw [← hrb] at R2
  try rw [← hrb]
  clear hrb
  cases tb with
  | false =>
    go_wp2_with (first | (refine load_rgm rfl (.tmp 1) rfl rb ⟨e, r, M, a, n, c, L, Y⟩ rfl R2.out ?_) | fail)
    refine PT.mono ?_
    rintro e w3 ⟨rfl, B3⟩
    have HB3 := Lib.hid (HB1.out.trans (B3.mono HB1.out.size))
    clear PT B3
    go_wp2
    go_ret
    exact ⟨rfl, HB3.out⟩
  | true =>
    go_wp2_with (first | (refine load_rgm rfl (.tmp 1) rfl rb ⟨e, r, M, a, n, c, L, Y⟩ rfl R2.out ?_) | fail)
    refine PT.mono ?_
    rintro e w3 ⟨rfl, B3⟩
    have HB3 := Lib.hid (HB1.out.trans (B3.mono HB1.out.size))
    have R3 := Lib.hid (R2.out.below B3)
    have c1 : w3.cell? ⟨rb, 2, none⟩ = some (.int .u64 (M : Int)) := R3.out.c1
    have c3 : w3.cell? ⟨rb, 4, none⟩ = some (.int .u64 (Y : Int)) := R3.out.c3
    clear PT B3 R2
    go_wp2
    go_ret
    exact ⟨rfl, HB3.out⟩
end
end Go.Proofs.YtmaiphgmnammgaaDoor

/- The document's attempt: one is ready. -/
set_option linter.unusedVariables false
set_option maxRecDepth 100000
set_option linter.unusedSimpArgs false
namespace Go.Proofs.YtmaiphgmnammgaaDoor
open Go.RowKit Go.Sort Go.Maps

def zeroRG : RG := ⟨0, 0, 0, none, 0, 0, [], 0⟩
def mkOk (R : RG) (z : Int) : Bool := tR R && mem R.M z && !mem R.Y z
def mkR (R : RG) (z : Int) : RG := if mkOk R z = true then { R with Y := any R.Y (onl z) } else R
def mkB (R : RG) (z : Int) : Bool := mkOk R z && dR (mkR R z)
/-- The two blocks of a function that answers an attempt. -/
structure RkSt (w V : World) (e0 : Nat) (R Z : RG) : Prop where
  b : RgB V e0 R
  z : RgB V (e0 + 1) Z
  bel : Below w.heap.size w V
  e : e0 = w.heap.size
section
variable {w V V' : World} {e0 : Nat} {R Z : RG}
theorem RkSt.new (w : World) (R : RG) : RkSt w ((w.alloc (.cells (encRG R).toArray 33)).alloc (.cells (encRG zeroRG).toArray 33)) w.heap.size R zeroRG := by
  refine ⟨(RgB.new w R).below ((Grw.refl _).alloc (.cells (encRG zeroRG).toArray 33)).below, ?_, (((Grw.refl w).alloc _).alloc _).below, rfl⟩
  have h := RgB.new (w.alloc (.cells (encRG R).toArray 33)) zeroRG
  have hsz : (w.alloc (.cells (encRG R).toArray 33)).heap.size = w.heap.size + 1 := by simp
  rw [hsz] at h
  exact h
theorem RkSt.later (h : RkSt w V e0 R Z) (hb : Below V.heap.size V V') : RkSt w V' e0 R Z := ⟨h.b.below hb, h.z.below hb, h.bel.trans (hb.mono h.bel.size), h.e⟩
theorem RkSt.store (h : RkSt w V e0 R Z) (R2 : RG) : RkSt w (V.setRow (e0 + 1) (encRG R2).toArray) e0 R R2 :=
  ⟨h.b.kept (setRow_other _ _ _ _ (by omega)), setRow_heap _ _ _ _ _ _ h.z, ⟨h.bel.os, h.bel.tape, h.bel.output, by rw [size_setRow]; exact h.bel.size, fun k hk => (setRow_other _ _ _ _ (by have := h.e; omega)).trans (h.bel.block k hk)⟩, h.e⟩
theorem RkSt.setY (h : RkSt w V e0 R Z) (y : Nat) : RkSt w (V.setCell ⟨e0, 4, none⟩ (.int .u64 (y : Int))) e0 { R with Y := y } Z :=
  ⟨h.b.own.set 4 _, h.z.kept (heap_setCell_other _ _ _ _ (by show e0 + 1 ≠ e0; omega)), h.bel.setCell (by have := h.e; show w.heap.size ≤ e0; omega) _, h.e⟩
end
theorem store_rgm {ops : Array Oper} {rest : List Oper} {o : Oper} {A : Act} {w : World} {Q : Exit → Act → World → Prop} (hgd : o.guard = none) (x y : Operand) (ho : o.op = .store 33 x y)
    (g : Nat) (m : RG) (hx : A.eval x = .pointer (some ⟨g, 0, none⟩)) (hy : A.eval y = encRv m) {m0 : RG} (hg : RgB w g m0)
    (h : wpList Tryd.prog ops Q rest (A.put o.dst undef) (w.setRow g (encRG m).toArray)) : wpList Tryd.prog ops Q (o :: rest) A w :=
  wpList_store_row hgd 33 x y ho g _ hx hy 33 _ hg rg_size rfl (rg_one1 m) h
theorem yields_rgm {ops : Array Oper} {S : World → Prop} {op : Oper} {a : Act} (hw : Region.wanted op (yielded ops a.tmps) = true) (x : Operand) (ho : op.op = .load 33 x)
    (g : Nat) (hx : a.eval x = .pointer (some ⟨g, 0, none⟩)) {m : RG} (hS : ∀ w, S w → RgB w g m) : YieldsIf Tryd.prog ops S op (encRv m) a :=
  yieldsIf_load_mid hw 33 x ho g 0 hx (encRG m) _ (fun w' hS' => (hS w' hS').rng) Tryd.underlying33 rfl rg_size
/-- What MakeReady answers. -/
def MkSaid (w : World) (R : RG) (z : Int) (e : Ending) (w' : World) : Prop := e = .returned (.tuple #[encRv (mkR R z), .bool (mkB R z)]) ∧ Below w.heap.size w w'
set_option maxHeartbeats 4000000 in
theorem rmake {w : World} (R : RG) (hm : R.M < 18446744073709551616) (hy : R.Y < 18446744073709551616) (z : Int) :
    Calls Tryd.prog 12 #[encRv R, .int .i64 z] w (MkSaid w R z) := by
  have K0 := Lib.hid (RkSt.new w R)
  have HPT := Lib.hid (fun V => rtold (R := R) (w := V) hm)
  have HPM := Lib.hid (fun V => rmember R.M z V hm)
  have HPY := Lib.hid (fun V => rmember R.Y z V hy)
  have HOK := Lib.hid (show mkOk R z = (tR R && mem R.M z && !mem R.Y z) from rfl)
  have HY := Lib.hid hy
  have HM := Lib.hid hm
  clear hm hy
  obtain ⟨e, r, M, a, n, c, L, Y⟩ := R
  unfold encRv encRG at *
  simp only at HPM HPY HOK HPT HY HM K0
  unfold zeroRG at K0
  simp only at K0
  obtain ⟨tb, htb⟩ : ∃ tb, tb = tR ⟨e, r, M, a, n, c, L, Y⟩ := ⟨_, rfl⟩
  obtain ⟨mm, hmm⟩ : ∃ mm, mm = mem M z := ⟨_, rfl⟩
  obtain ⟨my, hmy⟩ : ∃ my, my = mem Y z := ⟨_, rfl⟩
  rw [← htb] at HPT HOK
  rw [← hmm] at HPM HOK
  rw [← hmy] at HPY HOK
  have HMM := Lib.hid hmm
  clear htb hmm hmy
  go_enter Tryd.func12, Tryd.ntmps12
  go_upto_region 1 with fail
  generalize ((w.alloc (.cells #[.int .u64 e, .int .i64 r, .int .u64 (M : Int), .slice a n c, .int .u64 (Y : Int)] 33)).alloc (.cells #[.int .u64 0, .int .i64 0, .int .u64 0, .slice none 0 0, .int .u64 0] 33)) = w2 at *
  have K2 : Hid (RkSt w w2 w.heap.size ⟨e, r, M, a, n, c, L, Y⟩ zeroRG) := Lib.hid K0.out
  clear K0
  obtain ⟨e0, he0⟩ : ∃ e0, e0 = w.heap.size := ⟨_, rfl⟩
  rw [← he0] at K2
  try rw [← he0]
  clear he0
  have PT := HPT.out w2
  go_wp2_with (first | (refine load_rgm rfl (.tmp 2) rfl e0 ⟨e, r, M, a, n, c, L, Y⟩ rfl K2.out.b ?_) | fail)
  refine PT.mono ?_
  rintro e w3 ⟨rfl, B3⟩
  have K1 := Lib.hid (K2.out.later B3)
  clear PT HPT B3 K2
  cases tb with
  | false =>
    have HNO : Hid (mkOk ⟨e, r, M, a, n, c, L, Y⟩ z = false) := Lib.hid (by rw [HOK.out]; rfl)
    clear HOK HPM HPY
    have HF := Lib.hid (show mkR ⟨e, r, M, a, n, c, L, Y⟩ z = ⟨e, r, M, a, n, c, L, Y⟩ ∧ mkB ⟨e, r, M, a, n, c, L, Y⟩ z = false from ⟨by unfold mkR; rw [HNO.out]; rfl, by unfold mkB; rw [HNO.out]; rfl⟩)
    go_wp2_with (first | (refine load_rgm rfl (.tmp 2) rfl e0 ⟨e, r, M, a, n, c, L, Y⟩ rfl K1.out.b ?_) | (refine store_rgm rfl (.tmp 4) (.tmp 22) rfl (e0 + 1) ⟨e, r, M, a, n, c, L, Y⟩ rfl rfl K1.out.z ?_) | fail)
    have K2 := Lib.hid (K1.out.store ⟨e, r, M, a, n, c, L, Y⟩)
    (try simp only [Exit.inBlock, Exit.then])
    exact bodyPost_ret (results_rgp rfl _ _ (e0 + 1) rfl K2.out.z) rfl ⟨by rw [HF.out.1, HF.out.2]; rfl, K2.out.bel⟩
  | true =>
    have PM := HPM.out w3
    have c1 : w3.cell? ⟨e0, 2, none⟩ = some (.int .u64 (M : Int)) := K1.out.b.c1
    go_wp2_with fail
    refine PM.mono ?_
    rintro e w4 ⟨rfl, rfl⟩
    clear PM HPM c1
    cases mm with
    | false =>
      have HNO : Hid (mkOk ⟨e, r, M, a, n, c, L, Y⟩ z = false) := Lib.hid (by rw [HOK.out]; rfl)
      clear HOK HPY
      have HF := Lib.hid (show mkR ⟨e, r, M, a, n, c, L, Y⟩ z = ⟨e, r, M, a, n, c, L, Y⟩ ∧ mkB ⟨e, r, M, a, n, c, L, Y⟩ z = false from ⟨by unfold mkR; rw [HNO.out]; rfl, by unfold mkB; rw [HNO.out]; rfl⟩)
      go_wp2_with (first | (refine load_rgm rfl (.tmp 2) rfl e0 ⟨e, r, M, a, n, c, L, Y⟩ rfl K1.out.b ?_) | (refine store_rgm rfl (.tmp 4) (.tmp 22) rfl (e0 + 1) ⟨e, r, M, a, n, c, L, Y⟩ rfl rfl K1.out.z ?_) | fail)
      have K2 := Lib.hid (K1.out.store ⟨e, r, M, a, n, c, L, Y⟩)
      (try simp only [Exit.inBlock, Exit.then])
      exact bodyPost_ret (results_rgp rfl _ _ (e0 + 1) rfl K2.out.z) rfl ⟨by rw [HF.out.1, HF.out.2]; rfl, K2.out.bel⟩
    | true =>
      have PM := HPY.out w3
      have c3 : w3.cell? ⟨e0, 4, none⟩ = some (.int .u64 (Y : Int)) := K1.out.b.c3
      go_wp2_with fail
      refine PM.mono ?_
      rintro e w4 ⟨rfl, rfl⟩
      clear PM HPY c3
      cases my with
      | true =>
        have HNO : Hid (mkOk ⟨e, r, M, a, n, c, L, Y⟩ z = false) := Lib.hid (by rw [HOK.out]; rfl)
        clear HOK
        have HF := Lib.hid (show mkR ⟨e, r, M, a, n, c, L, Y⟩ z = ⟨e, r, M, a, n, c, L, Y⟩ ∧ mkB ⟨e, r, M, a, n, c, L, Y⟩ z = false from ⟨by unfold mkR; rw [HNO.out]; rfl, by unfold mkB; rw [HNO.out]; rfl⟩)
        go_wp2_with (first | (refine load_rgm rfl (.tmp 2) rfl e0 ⟨e, r, M, a, n, c, L, Y⟩ rfl K1.out.b ?_) | (refine store_rgm rfl (.tmp 4) (.tmp 22) rfl (e0 + 1) ⟨e, r, M, a, n, c, L, Y⟩ rfl rfl K1.out.z ?_) | fail)
        have K2 := Lib.hid (K1.out.store ⟨e, r, M, a, n, c, L, Y⟩)
        (try simp only [Exit.inBlock, Exit.then])
        exact bodyPost_ret (results_rgp rfl _ _ (e0 + 1) rfl K2.out.z) rfl ⟨by rw [HF.out.1, HF.out.2]; rfl, K2.out.bel⟩
      | false =>
        have hlt := mem_lt HMM.out.symm
        obtain ⟨k, rfl⟩ := Int.eq_ofNat_of_zero_le hlt.1
        have hk : k < 64 := by omega
        have hk' : (k : Int) < 64 := by omega
        have hm3 : min k 64 = k := by omega
        have HYS : Hid (mkOk ⟨e, r, M, a, n, c, L, Y⟩ (k : Int) = true) := Lib.hid (by rw [HOK.out]; rfl)
        have hor := or_one16 Y k HY.out hk
        obtain ⟨y2, hy2⟩ : ∃ y2, y2 = any Y (onl (k : Int)) := ⟨_, rfl⟩
        rw [← hy2] at hor
        have HF := Lib.hid (show mkR ⟨e, r, M, a, n, c, L, Y⟩ (k : Int) = ⟨e, r, M, a, n, c, L, y2⟩ ∧ mkB ⟨e, r, M, a, n, c, L, Y⟩ (k : Int) = dR ⟨e, r, M, a, n, c, L, y2⟩ from by
          have h1 : mkR ⟨e, r, M, a, n, c, L, Y⟩ (k : Int) = ⟨e, r, M, a, n, c, L, y2⟩ := by unfold mkR; rw [HYS.out, if_pos rfl, hy2]
          exact ⟨h1, by unfold mkB; rw [HYS.out, h1]; rfl⟩)
        clear hlt hy2 HYS HOK HMM
        have c3 : w3.cell? ⟨e0, 4, none⟩ = some (.int .u64 (Y : Int)) := K1.out.b.c3
        go_upto_region 3 with fail
        have K3 := Lib.hid (K1.out.later (Grw.refl w3).drew.below)
        clear K1
        go_still_tail 6, (by kernel_rfl)
        change wpList _ _ _ _ _ w3.drew
        clear c3
        generalize w3.drew = w4 at *
        have c3 : w4.cell? ⟨e0, 4, none⟩ = some (.int .u64 (Y : Int)) := K3.out.b.c3
        have f3 := K3.out.b.own.free 4
        go_upto_region 4 with fail
        have K4 := Lib.hid (K3.out.setY y2)
        clear c3 f3 K3 hor hm3
        generalize (w4.setCell ⟨e0, 4, none⟩ (.int .u64 (y2 : Int))) = w5 at *
        have K5 := Lib.hid (K4.out.later (Grw.refl w5).drew.below)
        clear K4
        refine wp_region_held_drew (S := fun w' => RgB w' e0 ⟨e, r, M, a, n, c, L, y2⟩) (by kernel_rfl) K5.out.b (fun hHeld => ?_)
        generalize w5.drew = w6 at *
        refine stake (i := 0) (v := encRv ⟨e, r, M, a, n, c, L, y2⟩) 29 rfl (by kernel_rfl) (by kernel_rfl) (by kernel_rfl) (by kernel_rfl) (fun _ _ _ h => h) (yields_rgm (by kernel_rfl) (.tmp 2) rfl e0 (by kernel_rfl) (fun _ h => h)) hHeld ?_
        (try simp only [Act.put, List.setIfInBounds_toArray, List.set_cons_zero, List.set_cons_succ])
        refine stake (i := 1) (v := encRv ⟨e, r, M, a, n, c, L, y2⟩) 30 rfl (by kernel_rfl) (by kernel_rfl) (by kernel_rfl) (by kernel_rfl) (fun _ _ _ h => h) (yields_rgm (by kernel_rfl) (.tmp 2) rfl e0 (by kernel_rfl) (fun _ h => h)) hHeld ?_
        (try simp only [Act.put, List.setIfInBounds_toArray, List.set_cons_zero, List.set_cons_succ])
        have PD := rdone (w := w6) (R := ⟨e, r, M, a, n, c, L, y2⟩) HM.out
        refine wpAnyH_ready (rs := [2]) (by kernel_rfl) (by simp) (AllReadyH.cons rfl (fun K hK => ?_) AllReadyH.nil)
        clear hHeld
        rw [if_pos (by kernel_rfl)]
        go_simp
        refine PD.mono ?_
        rintro e w7 ⟨rfl, B7⟩
        have K7 := Lib.hid (K5.out.later B7)
        clear PD B7 K5
        refine hK.out _ _ K7.out.b (fun hHeld => ?_)
        clear hK K
        (try simp only [Act.put, List.setIfInBounds_toArray, List.set_cons_zero, List.set_cons_succ])
        refine wpAnyH_ready (rs := [3]) (by kernel_rfl) (by simp) (AllReadyH.cons rfl (fun K hK => ?_) AllReadyH.nil)
        clear hHeld
        rw [if_pos (by kernel_rfl)]
        refine wp_store_row 33 (.tmp 4) (.tmp 29) rfl (e0 + 1) (encRG ⟨e, r, M, a, n, c, L, y2⟩).toArray rfl rfl 33 _ K7.out.z rg_size rfl (rg_one1 _) ?_
        have K8 := Lib.hid (K7.out.store ⟨e, r, M, a, n, c, L, y2⟩)
        refine hK.out _ _ K8.out.b (fun hHeld => ?_)
        clear hK K K7
        generalize (w7.setRow (e0 + 1) (encRG ⟨e, r, M, a, n, c, L, y2⟩).toArray) = w8 at *
        (try simp only [Act.put, List.setIfInBounds_toArray, List.set_cons_zero, List.set_cons_succ])
        refine wpAnyH_ready (rs := [4]) (by kernel_rfl) (by simp) (AllReadyH.cons rfl (fun K hK => ?_) AllReadyH.nil)
        clear hHeld
        rw [if_pos (by kernel_rfl)]
        go_simp
        refine hK.out _ _ K8.out.b (fun hHeld => ?_)
        clear hK K hHeld
        (try simp only [Act.put, List.setIfInBounds_toArray, List.set_cons_zero, List.set_cons_succ])
        refine wpAnyH_done (by kernel_rfl) ?_ _
        go_wp2_with fail
        (try simp only [Exit.inBlock, Exit.then])
        exact bodyPost_ret (results_rgp rfl _ _ (e0 + 1) rfl K8.out.z) rfl ⟨by rw [HF.out.1, HF.out.2]; rfl, K8.out.bel⟩
end Go.Proofs.YtmaiphgmnammgaaDoor
