/- Parsing a packet: the program's. -/
import Derived.Test.YtibngfpjdookkaaRdEnd
import Derived.Test.YtibngfpjdookkaaReads
import Derived.Deep.RegionHeld3
set_option linter.unusedVariables false
set_option linter.unusedSimpArgs false
namespace Go.Proofs.Ytibngfpjdookkaa
open Go.RowKit Go.Sort

/-- The packet that any bytes are, or what is wrong with them. -/
def parsedOf (s : ByteArray) : Except Nat Pk := if pc s ≠ 0 then .error (pc s) else parseB (pk s : Nat) (pf s : Nat) (pt s : Nat) (pbody s).data.toList
/-- What Parse answers. -/
def ParsePost (s : ByteArray) (w : World) (e : Ending) (w' : World) : Prop :=
  Below w.heap.size w w' ∧ ((∃ q T vd vg vx, parsedOf s = .ok q ∧ e = .returned (.tuple #[.agg (encP q T vd vg vx).toArray, .int .i64 0]) ∧ OwnPk w.heap.size w' q T vd vg vx) ∨
    (∃ c, c ≠ 0 ∧ parsedOf s = .error c ∧ e = .returned (.tuple #[.agg (encP zeroP { data := #[] } Vc.nil Vc.nil Vc.nil).toArray, .int .i64 (c : Int)])))
theorem parsedOf_bad {s : ByteArray} (h : pc s ≠ 0) : parsedOf s = .error (pc s) := by unfold parsedOf; rw [if_pos h]
theorem parsedOf_body {s : ByteArray} (h : pc s = 0) : parsedOf s = parseB (pk s : Nat) (pf s : Nat) (pt s : Nat) (restB (pbody s) 0) := by
  unfold parsedOf restB
  rw [if_neg (by rw [h]; decide), List.drop_zero]

/-- The two results' cells of Parse. -/
structure Two (w W : World) (p : Pk) (T : ByteArray) (vd vg vx : Vc) (c : Int) : Prop where
  pk : Own W w.heap.size 35 (encP p T vd vg vx).toArray
  er : Own W (w.heap.size + 1) 36 #[.int .i64 c]
  below : Below w.heap.size w W
theorem Two.later {w W W' : World} {p : Pk} {T : ByteArray} {vd vg vx : Vc} {c : Int} (h : Two w W p T vd vg vx c) {B : Nat} (hb : Below B W W') (hB : w.heap.size + 2 ≤ B) : Two w W' p T vd vg vx c :=
  ⟨h.pk.below hb (by omega), h.er.below hb (by omega), h.below.trans (hb.mono (by omega))⟩
theorem Two.new (w : World) : Two w ((w.alloc (.cells zeroPv 35)).alloc (.cells #[.int .i64 0] 36)) zeroP { data := #[] } Vc.nil Vc.nil Vc.nil 0 := by
  refine ⟨?_, ?_, ((Below.refl _ _).alloc (Nat.le_refl _) _).alloc (by simp) _⟩
  · exact (Own.new w 35 zeroPv).below ((Grw.refl _).alloc _).below (by simp)
  · have := Own.new (w.alloc (.cells zeroPv 35)) 36 #[.int .i64 0]
    simpa using this
theorem Two.setE {w W : World} {p : Pk} {T : ByteArray} {vd vg vx : Vc} {c : Int} (h : Two w W p T vd vg vx c) (c' : Int) : Two w (W.setCell ⟨w.heap.size + 1, 0, none⟩ (.int .i64 c')) p T vd vg vx c' :=
  ⟨h.pk.set_other _ _ _ (by omega), h.er.set 0 _, h.below.setCell (by simp) _⟩
theorem Two.setP {w W : World} {p : Pk} {T : ByteArray} {vd vg vx : Vc} {c : Int} (h : Two w W p T vd vg vx c) (p' : Pk) (T' : ByteArray) (vd' vg' vx' : Vc) : Two w (W.setRow w.heap.size (encP p' T' vd' vg' vx').toArray) p' T' vd' vg' vx' c :=
  ⟨h.pk.row _, h.er.row_other _ (by omega), below_setRow h.below (Nat.le_refl _) _⟩
theorem Two.lt {w W : World} {p : Pk} {T : ByteArray} {vd vg vx : Vc} {c : Int} (h : Two w W p T vd vg vx c) : w.heap.size + 2 ≤ W.heap.size := h.er.lt
/-- Handed back: the two results. -/
theorem results_two {fn : Func} {p u : Tmp} (h : fn.results = #[.cell p 35, .cell u 36]) (tmps : Array Value) {w W : World} {q : Pk} {T : ByteArray} {vd vg vx : Vc} {c : Int}
    (hp : tmps.getD p undef = .pointer (some ⟨w.heap.size, 0, none⟩)) (hu : tmps.getD u undef = .pointer (some ⟨w.heap.size + 1, 0, none⟩)) (hg : Two w W q T vd vg vx c) :
    (results fn tmps).run Try.prog W = .ok (.tuple #[.agg (encP q T vd vg vx).toArray, .int .i64 c]) W := by
  have hl := run_loadVar_row (P := Try.prog) W w.heap.size 35 35 (encP q T vd vg vx).toArray (0, 0) _ hg.pk Try.underlying35 rfl packet_size
  have hc : W.cell? ⟨w.heap.size + 1, 0, none⟩ = some (.int .i64 c) := hg.er.at_ 0 _ rfl
  have hp' : tmps[p]?.getD undef = .pointer (some ⟨w.heap.size, 0, none⟩) := by simpa using hp
  have hu' : tmps[u]?.getD undef = .pointer (some ⟨w.heap.size + 1, 0, none⟩) := by simpa using hu
  simp [results, h, hp', hu', asAddr, hl, Result.andThen]
  simp [loadVar, go_sem, hc]

theorem below_of_grown {w w' : World} {b : Nat} (h : w.grownBy w' (some b)) (hb : b ≤ w.heap.size) : Below b w w' :=
  ⟨h.os, h.tape, h.output, h.size, fun k hk => h.block k (by omega) (by intro e; cases e; omega)⟩
theorem getN_err_ne {n : Nat} {l : List UInt8} {x : Nat} (h : getN n l = .error x) : x ≠ 0 := by
  unfold getN at h; split at h
  · cases h; decide
  · cases h
/-- No error's number is nought. -/
def NoNought {α : Type} (g : List UInt8 → Got α) : Prop := ∀ l x, g l = .error x → x ≠ 0
theorem NoNought.and {α β : Type} {g : List UInt8 → Got α} {f : α → List UInt8 → Got β} (hg : NoNought g) (hf : ∀ a, NoNought (f a)) : NoNought fun l => andG (g l) f := by
  intro l x h
  simp only at h
  cases e : g l with
  | error y => rw [e, andG_err] at h; cases h; exact hg l _ e
  | ok p => obtain ⟨a, r⟩ := p; rw [e, andG_ok] at h; exact hf a r x h
theorem NoNought.bad {β : Type} {c : Nat} (hc : c ≠ 0) {is : Prop} [Decidable is] {f : List UInt8 → Got β} (hf : NoNought f) : NoNought fun l => badG c is (f l) := by
  intro l x h
  simp only [badG] at h
  split at h
  · cases h; exact hc
  · exact hf l x h
theorem NoNought.ok {α : Type} (v : α) : NoNought fun r => .ok (v, r) := fun l x h => by cases h
theorem nn_N (n : Nat) : NoNought (getN n) := fun l x h => getN_err_ne h
theorem nn_P : NoNought getP := (nn_N 1).and fun p => .bad (by decide) (.ok _)
theorem nn_C : NoNought getC := (nn_N 8).and fun e => nn_P.and fun p => .ok _
theorem nn_many {α : Type} {g : List UInt8 → Got α} (hg : NoNought g) : ∀ n, NoNought (getMany g n)
  | 0 => .ok _
  | n + 1 => hg.and fun v => (nn_many hg n).and fun vs => .ok _
theorem nn_V : NoNought getV := (nn_N 1).and fun n => .bad (by decide) fun l x h => by rw [getNs_many] at h; exact nn_many (nn_N 4) n l x h
theorem nn_T (n : Nat) : NoNought (getT n) := fun l x h => by
  unfold getT at h; split at h
  · cases h; decide
  · cases h
theorem nn_M (f : Int) : NoNought (getM f) := (nn_N 4).and fun q => (nn_N 8).and fun s => (nn_N 1).and fun v => .bad (by decide) (nn_V.and fun d => (nn_N 2).and fun n => .bad (by decide) ((nn_T n).and fun t => .ok _))
theorem nn_X : NoNought getX := nn_P.and fun w => nn_C.and fun o => nn_V.and fun c => (nn_N 8).and fun s => nn_P.and fun f => .ok _
theorem nn_L : NoNought getL := (nn_N 1).and fun n => .bad (by decide) fun l x h => by rw [getXs_many] at h; exact nn_many nn_X n l x h
theorem nn_F (f : Fd) (p : Pk) : NoNought (getF f p) := by
  cases f
  case c => exact nn_C.and fun v => .ok _
  case m => exact (nn_M _).and fun v => .ok _
  case s => exact (nn_N 8).and fun v => .ok _
  case n => exact (nn_N 4).and fun v => .ok _
  case g => exact nn_V.and fun v => .ok _
  case h => exact (nn_N 8).and fun v => .ok _
  case w => exact nn_P.and fun v => .ok _
  case q => exact (nn_N 4).and fun v => .ok _
  case p => exact nn_C.and fun v => .ok _
  case e => exact (nn_N 8).and fun v => .ok _
  case b => exact (nn_N 8).and fun v => .ok _
  case x => exact nn_X.and fun v => .ok _
  case l => exact nn_L.and fun v => .ok _
theorem nn_Fs : ∀ (fs : List Fd) (p : Pk), NoNought (getFs fs p)
  | [], p => .ok _
  | f :: fs, p => (nn_F f p).and fun q => nn_Fs fs q
theorem getFs_err_ne {fs : List Fd} {p : Pk} {l : List UInt8} {x : Nat} (h : getFs fs p l = .error x) : x ≠ 0 := nn_Fs fs p l x h
theorem pk_may {s : ByteArray} (h : pc s = 0) : 1 ≤ pk s ∧ pk s ≤ 11 := by
  have hr : rc (openS s) = 0 := by
    unfold pc at h
    split at h
    · cases h
    split at h
    · cases h
    exact h
  have := rc_may hr
  unfold pk
  rw [if_pos h]
  omega

set_option maxHeartbeats 4000000 in
set_option maxRecDepth 100000 in
theorem pparse_bad (s : ByteArray) (hs : s.size ≤ 1099511627776) (w : World) (hc : pc s ≠ 0) : Calls Try.prog 9 #[.string s] w (ParsePost s w) := by
  have hmf : ∀ (fn : Fn) (first cap : Array Value) (w : World), (Instr.makeFunc fn first cap).run Try.prog w = .ok (.func fn first cap) w := fun _ _ _ _ => rfl
  have hp := fun W => parse_any s W hs
  have HC := Lib.hid hc
  have HP := Lib.hid (parsedOf_bad hc)
  have T0 := Two.new w
  unfold zeroPv at T0
  generalize pk s = k at *
  generalize pf s = f at *
  generalize pt s = t at *
  generalize pbody s = y at *
  generalize pc s = c at *
  have hne : ¬ (c : Int) = 0 := by omega
  clear hc
  go_enter_defers Try.func9, Try.ntmps9
  go_wp2_with fail
  refine (hp _).mono ?_
  rintro e w1 ⟨rfl, L1⟩
  have T1 := T0.later L1 (by simp)
  have T2 := T1.later ((Grw.refl w1).alloc (.cells #[.int .i64 (k : Int), .int .i64 (f : Int), .int .i64 (t : Int), .string y] 56)).below T1.lt
  have c1 : (w1.alloc (.cells #[.int .i64 (k : Int), .int .i64 (f : Int), .int .i64 (t : Int), .string y] 56)).cell? ⟨w.heap.size + 1, 0, none⟩ = some (.int .i64 0) := T2.er.at_ 0 _ rfl
  have f1 : (w1.alloc (.cells #[.int .i64 (k : Int), .int .i64 (f : Int), .int .i64 (t : Int), .string y] 56)).frozen? ⟨w.heap.size + 1, 0, none⟩ = false := T2.er.free 0
  have T3 := T2.setE (c : Int)
  clear hp T0 T1 L1 T2
  go_wp2_with fail
  clear c1 f1
  generalize (w1.alloc (.cells #[.int .i64 (k : Int), .int .i64 (f : Int), .int .i64 (t : Int), .string y] 56)).setCell ⟨w.heap.size + 1, 0, none⟩ (.int .i64 (c : Int)) = w3 at *
  have hS0 : w3.drew.cell? ⟨w.heap.size + 1, 0, none⟩ = some (.int .i64 (c : Int)) := T3.er.at_ 0 _ rfl
  refine wp_region_noPanic ?_
  refine wp_region_held_drew (S := fun W => W.cell? ⟨w.heap.size + 1, 0, none⟩ = some (.int .i64 (c : Int))) (by kernel_rfl) hS0 (fun hHeld => ?_)
  refine wpAnyH_take (i := 0) (v := .agg (encP zeroP { data := #[] } Vc.nil Vc.nil Vc.nil).toArray) rfl (by kernel_rfl) (by kernel_rfl) (by kernel_rfl) (fun _ _ _ h => h) (.inl ⟨by rfl, fun w' hS => by (go_simp; rfl)⟩) hHeld ?_
  (try simp only [Act.put, List.setIfInBounds_toArray, List.set_cons_zero, List.set_cons_succ])
  refine wpAnyH_take (i := 1) (v := .int .i64 (c : Int)) rfl (by kernel_rfl) (by kernel_rfl) (by kernel_rfl) (fun _ _ _ h => h) (.inl ⟨by rfl, fun w' hS => by (dsimp only at hS; go_simp)⟩) hHeld ?_
  (try simp only [Act.put, List.setIfInBounds_toArray, List.set_cons_zero, List.set_cons_succ])
  refine wpAnyH_ready (rs := [2]) (by kernel_rfl) (by simp) (AllReadyH.cons rfl (fun K hK => ?_) AllReadyH.nil)
  rw [if_pos (by rfl)]
  have T4 : Two w w3.drew _ _ _ _ _ _ := ⟨T3.pk.drew, T3.er.drew, T3.below.drew⟩
  refine wp_store_row 35 (.tmp 2) (.tmp 14) rfl w.heap.size _ rfl rfl 35 _ T4.pk packet_size rfl (encP_one _ _ _ _ _) ?_
  have T5 := T4.setP zeroP { data := #[] } Vc.nil Vc.nil Vc.nil
  refine hK.out _ _ (T5.er.at_ 0 _ rfl) (fun hHeld => ?_)
  clear hK K hHeld hS0 T3 T4
  (try simp only [Act.put, List.setIfInBounds_toArray, List.set_cons_zero, List.set_cons_succ])
  refine wpAnyH_ready (rs := [3]) (by kernel_rfl) (by simp) (AllReadyH.cons rfl (fun K hK => ?_) AllReadyH.nil)
  have c1 : (w3.drew.setRow w.heap.size (encP zeroP { data := #[] } Vc.nil Vc.nil Vc.nil).toArray).cell? ⟨w.heap.size + 1, 0, none⟩ = some (.int .i64 (c : Int)) := T5.er.at_ 0 _ rfl
  have f1 : (w3.drew.setRow w.heap.size (encP zeroP { data := #[] } Vc.nil Vc.nil Vc.nil).toArray).frozen? ⟨w.heap.size + 1, 0, none⟩ = false := T5.er.free 0
  rw [if_pos (by rfl)]
  go_simp
  have T6 := T5.setE (c : Int)
  refine hK.out _ _ (T6.er.at_ 0 _ rfl) (fun hHeld => ?_)
  refine wpAnyH_done (by kernel_rfl) ?_ _
  clear hK K hHeld c1 f1 T5
  refine NoPanic.normal ?_
  go_wp2_with fail
  refine leaves_cons (f := 18) (args := #[.pointer (some ⟨w.heap.size, 0, none⟩), .pointer (some ⟨w.heap.size + 1, 0, none⟩)]) (by simp) (by simp [go_sem]) ?_
  refine (pidle _ _ _).mono ?_
  rintro e u' w'' ⟨rfl, rfl, rfl⟩
  exact ⟨_, results_two rfl _ rfl rfl T6, T6.below, .inr ⟨c, HC.out, HP.out, rfl⟩⟩

set_option maxHeartbeats 4000000 in
set_option maxRecDepth 100000 in
theorem pparse_ok (s : ByteArray) (hs : s.size ≤ 1099511627776) (w : World) (hc : pc s = 0) (hk : 1 ≤ pk s ∧ pk s ≤ 11) : Calls Try.prog 9 #[.string s] w (ParsePost s w) := by
  have hmf : ∀ (fn : Fn) (first cap : Array Value) (w : World), (Instr.makeFunc fn first cap).run Try.prog w = .ok (.func fn first cap) w := fun _ _ _ _ => rfl
  have hp := fun W => parse_any s W hs
  have HP := Lib.hid (parsedOf_body hc)
  have hys : (pbody s).size ≤ 1099511627776 := Nat.le_trans (pbody_le s) hs
  have T0 := Two.new w
  unfold zeroPv at T0
  rw [hc] at hp
  generalize pk s = k at *
  generalize pf s = f at *
  generalize pt s = t at *
  generalize pbody s = y at *
  clear hc
  go_enter_defers Try.func9, Try.ntmps9
  go_wp2_with fail
  refine (hp _).mono ?_
  rintro e w1 ⟨rfl, L1⟩
  have T1 := T0.later L1 (by simp)
  obtain ⟨w2, hw2⟩ : ∃ w2, w2 = w1.alloc (.cells #[.int .i64 (k : Int), .int .i64 (f : Int), .int .i64 (t : Int), .string y] 56) := ⟨_, rfl⟩
  have T2 := T1.later ((Grw.refl w1).alloc (.cells #[.int .i64 (k : Int), .int .i64 (f : Int), .int .i64 (t : Int), .string y] 56)).below T1.lt
  have F2 : Blk w2 w1.heap.size k f t y := by rw [hw2]; exact Blk.new _ _ _ _ _
  rw [← hw2] at T2
  have c1 : w2.cell? ⟨w.heap.size + 1, 0, none⟩ = some (.int .i64 0) := T2.er.at_ 0 _ rfl
  have f1 : w2.frozen? ⟨w.heap.size + 1, 0, none⟩ = false := T2.er.free 0
  have T3 := T2.setE 0
  have F3 := F2.set_other (w.heap.size + 1) 0 (.int .i64 0) (by have := T1.lt; omega)
  rw [hw2] at c1 f1
  have LT := T1.lt
  clear hp T0 T1 L1 T2 F2
  have d3 := F3.box.c3
  have e1 : (w2.setCell ⟨w.heap.size + 1, 0, none⟩ (.int .i64 0)).cell? ⟨w.heap.size + 1, 0, none⟩ = some (.int .i64 0) := T3.er.at_ 0 _ rfl
  rw [hw2] at d3 e1
  go_wp2_with fail
  rw [← hw2]
  generalize hw3 : w2.setCell ⟨w.heap.size + 1, 0, none⟩ (.int .i64 0) = w3 at *
  have hz3 : w1.heap.size < w3.heap.size := F3.lt
  refine (new_any _ _).mono ?_
  rintro e w4 ⟨rfl, hw4⟩
  have R4 : Rd w4 w3.heap.size y 0 := by rw [← hw4]; exact Rd.new w3 _ (by omega)
  have T4 := T3.later (W' := w4) (by rw [← hw4]; exact ((Grw.refl w3).alloc _).below) (by omega)
  have F4 : Blk w4 w1.heap.size k f t y := by rw [← hw4]; exact F3.alloc _
  have hz4 : w4.heap.size = w3.heap.size + 1 := by rw [← hw4]; simp
  obtain ⟨w5, hw5⟩ : ∃ w5, w5 = w4.alloc (.cells #[.pointer (some ⟨w3.heap.size, 0, none⟩)] 62) := ⟨_, rfl⟩
  have R5 : Rd w5 w3.heap.size y 0 := by rw [hw5]; exact R4.alloc' _
  have T5 := T4.later (W' := w5) (by rw [hw5]; exact ((Grw.refl w4).alloc _).below) (by omega)
  have F5 : Blk w5 w1.heap.size k f t y := by rw [hw5]; exact F4.alloc _
  have B5 : Own w5 w4.heap.size 62 #[.pointer (some ⟨w3.heap.size, 0, none⟩)] := by rw [hw5]; exact Own.new _ _ _
  rw [hz4] at B5
  have hlt5 := R5.lt
  have g0 : w5.cell? ⟨w1.heap.size, 0, none⟩ = some (.int .i64 (k : Int)) := F5.box.c0
  have g1 : w5.cell? ⟨w1.heap.size, 1, none⟩ = some (.int .i64 (f : Int)) := F5.box.c1
  have g2 : w5.cell? ⟨w1.heap.size, 2, none⟩ = some (.int .i64 (t : Int)) := F5.box.c2
  have g3 : w5.cell? ⟨w1.heap.size, 3, none⟩ = some (.string y) := F5.box.c3
  have hp := rpacket w5 w3.heap.size y 0 k f t y hys R5 (by omega) (by omega)
  rw [hw5] at g0 g1 g2 g3 hp
  clear hw2 hw3 hw4 c1 f1 d3 e1 T3 F3 R4 T4 F4 F5
  go_wp2_with fail
  refine hp.mono ?_
  rw [← hw5]
  clear g0 g1 g2 g3 hp
  rintro e w6 (⟨q, _, a1, hG, rfl, ⟨T, vd, vg, vx, rfl, hO⟩, hr, hg⟩ | ⟨x, hG, rfl, hg⟩)
  case inr =>
    have T6 : Two w w6 zeroP { data := #[] } Vc.nil Vc.nil Vc.nil 0 := T5.later (below_of_grown hg (by omega)) (by omega)
    refine leaves_cons (f := 18) (args := #[.pointer (some ⟨w.heap.size, 0, none⟩), .pointer (some ⟨w.heap.size + 1, 0, none⟩)]) (by simp) (by simp [go_sem]) ?_
    refine (pcatch w.heap.size (w.heap.size + 1) (x : Int) w6 T6.pk _ T6.er (by omega)).mono ?_
    rintro e u' w'' ⟨rfl, rfl, rfl⟩
    have T7 := (T6.setP zeroP { data := #[] } Vc.nil Vc.nil Vc.nil).setE (x : Int)
    refine ⟨_, results_two rfl _ rfl rfl T7, T7.below, .inr ⟨x, getFs_err_ne hG, ?_, rfl⟩⟩
    rw [HP.out]
    unfold parseB
    rw [hG]
  have T6 : Two w w6 zeroP { data := #[] } Vc.nil Vc.nil Vc.nil 0 := T5.later (below_of_grown hg (by omega)) (by omega)
  have B6 := B5.grown hg (by intro e; injection e with e; omega)
  have T7 := T6.setP q T vd vg vx
  have R7 := hr.row (g := w.heap.size) (by omega) (encP q T vd vg vx).toArray
  have O7 := (hO.mono (show w.heap.size + 2 ≤ w5.heap.size by have := R5.lt; omega)).row (g := w.heap.size) (by omega) (encP q T vd vg vx).toArray
  have b7 : (w6.setRow w.heap.size (encP q T vd vg vx).toArray).cell? ⟨w3.heap.size + 1, 0, none⟩ = some (.pointer (some ⟨w3.heap.size, 0, none⟩)) := (B6.row_other _ (by omega)).at_ 0 _ rfl
  have HG := Lib.hid hG
  have P6 := T6.pk
  clear T6 B6 B5 T5 R5 hg hr hG hO
  go_wp2_with (refine store_packet rfl (.tmp 2) (.tmp 22) rfl w.heap.size rfl rfl P6 ?_)
  refine (left_any _ _ _ _ R7).mono ?_
  rintro e w8 ⟨rfl, n8, hn8⟩
  have T8 : Two w w8 q T vd vg vx 0 := T7.later (by rw [hn8]; exact ((Grw.refl _).drewN n8).below) T7.lt
  have O8 : OwnPk (w.heap.size + 2) w8 q T vd vg vx := by rw [hn8]; exact O7.below ((Grw.refl _).drewN n8).below
  have hin := R7.in_
  clear hn8 T7 O7 b7 P6 R7
  by_cases hlt : a1 < y.size
  · have h8 : (0 : Int) < (y.size : Int) - (a1 : Int) := by omega
    have P8 := T8.pk
    have T9 := T8.setP zeroP { data := #[] } Vc.nil Vc.nil Vc.nil
    have c9 : (w8.setRow w.heap.size (encP zeroP { data := #[] } Vc.nil Vc.nil Vc.nil).toArray).cell? ⟨w.heap.size + 1, 0, none⟩ = some (.int .i64 0) := T9.er.at_ 0 _ rfl
    have f9 : (w8.setRow w.heap.size (encP zeroP { data := #[] } Vc.nil Vc.nil Vc.nil).toArray).frozen? ⟨w.heap.size + 1, 0, none⟩ = false := T9.er.free 0
    have T10 := T9.setE 4
    clear T8 T9
    go_wp2_with (refine store_packet (p := zeroP) (T := { data := #[] }) (vd := Vc.nil) (vg := Vc.nil) (vx := Vc.nil) rfl (.tmp 2) (.tmp 27) rfl w.heap.size rfl rfl P8 ?_)
    refine leaves_cons (f := 18) (args := #[.pointer (some ⟨w.heap.size, 0, none⟩), .pointer (some ⟨w.heap.size + 1, 0, none⟩)]) (by simp) (by simp [go_sem]) ?_
    refine (pidle _ _ _).mono ?_
    rintro e u' w'' ⟨rfl, rfl, rfl⟩
    refine ⟨_, results_two rfl _ rfl rfl T10, T10.below, .inr ⟨4, by decide, ?_, rfl⟩⟩
    rw [HP.out]
    unfold parseB
    rw [HG.out]
    have hl := restB_length y a1
    cases hR : restB y a1 with
    | nil => rw [hR] at hl; simp at hl; omega
    | cons z zs => rfl
  · have h8 : ¬ (0 : Int) < (y.size : Int) - (a1 : Int) := by omega
    have P8 := T8.pk
    have T9 := T8.setP q T vd vg vx
    have c9 : (w8.setRow w.heap.size (encP q T vd vg vx).toArray).cell? ⟨w.heap.size + 1, 0, none⟩ = some (.int .i64 0) := T9.er.at_ 0 _ rfl
    have f9 : (w8.setRow w.heap.size (encP q T vd vg vx).toArray).frozen? ⟨w.heap.size + 1, 0, none⟩ = false := T9.er.free 0
    have T10 := T9.setE 0
    have O10 : OwnPk w.heap.size ((w8.setRow w.heap.size (encP q T vd vg vx).toArray).setCell ⟨w.heap.size + 1, 0, none⟩ (.int .i64 0)) q T vd vg vx := ((O8.row (by omega) _).set (by omega) _ _).mono (by omega)
    clear T8 T9
    go_wp2_with (first | (refine load_packet rfl (.tmp 2) rfl w.heap.size rfl P8 ?_) | (refine store_packet rfl (.tmp 2) (.tmp 28) rfl w.heap.size rfl rfl P8 ?_))
    refine leaves_cons (f := 18) (args := #[.pointer (some ⟨w.heap.size, 0, none⟩), .pointer (some ⟨w.heap.size + 1, 0, none⟩)]) (by simp) (by simp [go_sem]) ?_
    refine (pidle _ _ _).mono ?_
    rintro e u' w'' ⟨rfl, rfl, rfl⟩
    refine ⟨_, results_two rfl _ rfl rfl T10, T10.below, .inl ⟨q, T, vd, vg, vx, ?_, rfl, O10⟩⟩
    rw [HP.out]
    unfold parseB
    rw [HG.out]
    have hl := restB_length y a1
    cases hR : restB y a1 with
    | nil => rfl
    | cons z zs => rw [hR] at hl; simp at hl; omega
theorem pparse_any (s : ByteArray) (hs : s.size ≤ 1099511627776) (w : World) : Calls Try.prog 9 #[.string s] w (ParsePost s w) := by
  by_cases hc : pc s = 0
  · exact pparse_ok s hs w hc (pk_may hc)
  · exact pparse_bad s hs w hc
end Go.Proofs.Ytibngfpjdookkaa
