/- The document's Take. (Written by wip/gen_srtake.py.) -/
import Derived.Test.YtcnfkjjfegjecaaSFind
set_option linter.unusedVariables false
set_option linter.unusedSimpArgs false
namespace Go.Proofs.Ytcnfkjjfegjecaa
open Go.RowKit Go.Sort Go.Maps

/-- Memory of the law's own. -/
def newB (B : Nat) : Nat → Prop := fun k => B ≤ k
/-- What Take leaves of a stream, and answers. -/
def RTook (w : World) (B : Nat) (S' : Sm Mg) (out : List Mg) (code : Nat) (e : Ending) (w' : World) : Prop :=
  ∃ ho hc oo oc, e = .returned (.tuple #[.agg #[.int .i64 (S'.size : Int), .int .u32 (S'.count : Int), .slice ho S'.held.length hc], .slice oo out.length oc, .int .i64 (code : Int)]) ∧ LikeAt w' (newB B) ho S'.held ∧ (ho = none → hc = 0) ∧ S'.held.length ≤ hc ∧ LikeAt w' (newB B) oo out ∧ Below w.heap.size w w'
/-- Amid Take: the stream's block, the result's; what is answered so far. -/
structure RlB (w V : World) (e0 B : Nat) (sz : Int) (c : Nat) (v : Value) (out : List Mg) (oo : Option Addr) (oc : Nat) : Prop where
  below : Below e0 w V
  e : RsB V e0 sz c v
  r : RsB V (e0 + 2) 0 0 (.slice none 0 0)
  out : OutAt V (newB B) (e0 + 3) oo oc out
  z : e0 + 3 ≤ V.heap.size
  b : B ≤ e0
structure RlSt (w V : World) (e0 B : Nat) (sz : Int) (c : Nat) (H : List Mg) (ho : Option Addr) (hc : Nat) (out : List Mg) (oo : Option Addr) (oc : Nat) : Prop where
  base : RlB w V e0 B sz c (.slice ho H.length hc) out oo oc
  held : OutAt V (newB B) (e0 + 3) ho hc H
  apart : ∀ x y, ho = some x → oo = some y → x.block ≠ y.block
theorem RlB.later {w V V' : World} {e0 B : Nat} {sz : Int} {c : Nat} {v : Value} {out : List Mg} {oo : Option Addr} {oc : Nat} (h : RlB w V e0 B sz c v out oo oc) (hb : Below V.heap.size V V') : RlB w V' e0 B sz c v out oo oc :=
  ⟨h.below.trans (hb.mono (by have := h.z; omega)), h.e.below hb, h.r.below hb, h.out.below hb, Nat.le_trans h.z hb.size, h.b⟩
theorem RlSt.later {w V V' : World} {e0 B : Nat} {sz : Int} {c : Nat} {H : List Mg} {ho : Option Addr} {hc : Nat} {out : List Mg} {oo : Option Addr} {oc : Nat} (h : RlSt w V e0 B sz c H ho hc out oo oc) (hb : Below V.heap.size V V') : RlSt w V' e0 B sz c H ho hc out oo oc :=
  ⟨h.base.later hb, h.held.below hb, h.apart⟩
theorem RlSt.lens {w V : World} {e0 B : Nat} {sz : Int} {c : Nat} {H : List Mg} {ho : Option Addr} {hc : Nat} {out : List Mg} {oo : Option Addr} {oc : Nat} (h : RlSt w V e0 B sz c H ho hc out oo oc) : H.length ≤ hc := by
  obtain ⟨L, hO, _⟩ := h.held
  rcases own_cases hO with ⟨h1, h2⟩ | ⟨g, cap, h1, h2, _⟩
  · omega
  · injection h1 with h1 _ h3
    omega
/-- The held ones turned about. -/
theorem RlB.final {w V0 W : World} {e0 B : Nat} {sz : Int} {c : Nat} {v : Value} {H' : List Mg} {out : List Mg} {oo : Option Addr} {oc : Nat} (h : RlB w V0 e0 B sz c v out oo oc) (L : Below V0.heap.size V0 W) {az : Option Addr} {cz : Nat} (Z : OutAt W (newB B) V0.heap.size az cz H') :
    RlSt w (W.setCell ⟨e0, 2, none⟩ (.slice az H'.length cz)) e0 B sz c H' az cz out oo oc := by
  have h1 := h.later L
  have hz := h.z
  have hzl := L.size
  have hb := h.b
  have hset : ∀ k, k ≠ e0 → (W.setCell ⟨e0, 2, none⟩ (.slice az H'.length cz)).heap[k]? = W.heap[k]? := fun k hk => heap_setCell_other W _ k _ hk
  refine ⟨⟨h1.below.setCell (Nat.le_refl _) _, h1.e.own.set 2 _, h1.r.own.set_other _ _ _ (by omega), h1.out.kept (fun k hk hn => hset k (fun e => hn (by show B ≤ k; omega))) (fun x e hk => hset _ (by have := h1.out.place x e; omega)), by simp; omega, hb⟩,
    (Z.kept (fun k hk hn => hset k (fun e => hn (by show B ≤ k; omega))) (fun x e hk => hset _ (by have := Z.place x e; omega))).base_le hz, fun x y e e2 => ?_⟩
  have := Z.place x e
  have := h.out.place y e2
  omega
/-- One more that is answered. -/
theorem RlSt.push {w V V' : World} {e0 B : Nat} {sz : Int} {c : Nat} {H : List Mg} {ho : Option Addr} {hc : Nat} {out : List Mg} {oo : Option Addr} {oc : Nat} (h : RlSt w V e0 B sz c H ho hc out oo oc) {m : Mg} {oo' : Option Addr} {oc' : Nat}
    (h1 : OutAt V' (addB (newB B) oo') (e0 + 3) oo' oc' (out ++ [m])) (h2 : V.grownBy V' (Value.slice oo out.length oc).ownBlock) (h3 : ∀ x, oo' = some x → oo = some x ∨ x.block = V.heap.size) : RlSt w V' e0 B sz c H ho hc (out ++ [m]) oo' oc' := by
  have hz := h.base.z
  have hb := h.base.b
  have hpl : ∀ k, (Value.slice oo out.length oc).ownBlock = some k → e0 + 3 ≤ k := fun k hk => by
    obtain ⟨x, e, rfl⟩ := own_of_slice hk
    exact (h.base.out.place x e).1
  refine ⟨⟨h.base.below.grown h2 (by omega) (fun k hk => by have := hpl k hk; omega), h.base.e.grown h2 (fun k hk => by have := hpl k hk; omega), h.base.r.grown h2 (fun k hk => by have := hpl k hk; omega), h1.less fun k hk => .inl hk, Nat.le_trans hz h2.size, hb⟩,
    h.held.grow h2 (fun k hk => by
      obtain ⟨y, e, rfl⟩ := own_of_slice hk
      refine ⟨by have := hpl _ hk; show B ≤ y.block; omega, fun x e2 => h.apart x y e2 e⟩) (fun k hk => hk) (fun k hk => .inl hk), fun x y e e2 => ?_⟩
  have := h.held.place x e
  rcases h3 y e2 with e3 | e3
  · exact h.apart x y e e3
  · omega
/-- The count, one more. -/
theorem RlSt.count {w V : World} {e0 B : Nat} {sz : Int} {c : Nat} {H : List Mg} {ho : Option Addr} {hc : Nat} {out : List Mg} {oo : Option Addr} {oc : Nat} (h : RlSt w V e0 B sz c H ho hc out oo oc) (d : Nat) : RlSt w (V.setCell ⟨e0, 1, none⟩ (.int .u32 (d : Int))) e0 B sz d H ho hc out oo oc := by
  have hz := h.base.z
  have hb := h.base.b
  have hset : ∀ k, k ≠ e0 → (V.setCell ⟨e0, 1, none⟩ (.int .u32 (d : Int))).heap[k]? = V.heap[k]? := fun k hk => heap_setCell_other V _ k _ hk
  exact ⟨⟨h.base.below.setCell (Nat.le_refl _) _, h.base.e.own.set 1 _, h.base.r.own.set_other _ _ _ (by omega), h.base.out.kept (fun k hk hn => hset k (fun e => hn (by show B ≤ k; omega))) (fun x e hk => hset _ (by have := h.base.out.place x e; omega)), by simp; omega, hb⟩,
    h.held.kept (fun k hk hn => hset k (fun e => hn (by show B ≤ k; omega))) (fun x e hk => hset _ (by have := h.held.place x e; omega)), h.apart⟩
/-- The end. -/
theorem RlSt.done {w V : World} {B : Nat} {S' : Sm Mg} {H : List Mg} {ho : Option Addr} {hc : Nat} {out : List Mg} {oo : Option Addr} {oc c : Nat} (h : RlSt w V w.heap.size B (S'.size : Int) c H ho hc out oo oc) (hc' : c = S'.count) (hh : H = S'.held) :
    RTook w B S' out 0 (.returned (.tuple #[.agg #[.int .i64 (S'.size : Int), .int .u32 (c : Int), .slice ho H.length hc], .slice oo out.length oc, .int .i64 0])) (V.setRow (w.heap.size + 2) #[.int .i64 (S'.size : Int), .int .u32 (c : Int), .slice ho H.length hc]) := by
  have hl := h.lens
  have hz := h.base.z
  subst hc' hh
  have hset : ∀ k, k ≠ w.heap.size + 2 → (V.setRow (w.heap.size + 2) #[.int .i64 (S'.size : Int), .int .u32 (S'.count : Int), .slice ho S'.held.length hc]).heap[k]? = V.heap[k]? := fun k hk => setRow_other _ _ _ _ hk
  have hb := h.base.b
  exact ⟨ho, hc, oo, oc, rfl, (h.held.kept (fun k hk hn => hset k (fun e => hn (by show B ≤ k; omega))) (fun x e hk => hset _ (by have := h.held.place x e; omega))).like, h.held.cap, hl, (h.base.out.kept (fun k hk hn => hset k (fun e => hn (by show B ≤ k; omega))) (fun x e hk => hset _ (by have := h.base.out.place x e; omega))).like, belowRow10 h.base.below _ (by omega) _⟩
/-- A call that changes nothing. -/
theorem rtook_same {w V : World} {B : Nat} {S : Sm Mg} {ho : Option Addr} {hc : Nat} (hb : Below w.heap.size w V) (hl : LikeAt w (newB B) ho S.held) (hc0 : ho = none → hc = 0) (hcl : S.held.length ≤ hc) (hB : B ≤ w.heap.size) (k : Nat) :
    RTook w B S [] k (.returned (.tuple #[.agg #[.int .i64 (S.size : Int), .int .u32 (S.count : Int), .slice ho S.held.length hc], .slice none 0 0, .int .i64 (k : Int)])) (V.setRow (w.heap.size + 2) #[.int .i64 (S.size : Int), .int .u32 (S.count : Int), .slice ho S.held.length hc]) := by
  have hb2 := belowRow10 hb (w.heap.size + 2) (by omega) #[.int .i64 (S.size : Int), .int .u32 (S.count : Int), .slice ho S.held.length hc]
  exact ⟨ho, hc, none, 0, rfl, hl.below hb2, hc0, hcl, ⟨[], ⟨rfl, fun h => absurd h (Nat.lt_irrefl 0)⟩, rfl, fun i x m hx => by simp at hx⟩, hb2⟩
set_option maxHeartbeats 4000000 in
set_option maxRecDepth 100000 in
theorem rtake_1 {w : World} {B : Nat} {S : Sm Mg} {ho : Option Addr} {hc : Nat} (sz : Int) (c q : Nat) (hsz : sz = (S.size : Int)) (hcs : c = S.count) (hl : LikeAt w (newB B) ho S.held) (hc0 : ho = none → hc = 0) (hcl : S.held.length ≤ hc) (hI : SmInv sqG S) (f s v : Int) (a : Option Addr) (dl dc : Nat) (deps : List Int) (text : ByteArray) (hq4 : q < 4294967296) (hd : DpOff w (newB B) ⟨f, (q : Int), s, v, a, dl, dc, deps, text⟩) (hft : Fits S.held) (hB : B ≤ w.heap.size) (hcc : S.count ≤ 1000000) (hq0 : q = 0) : Calls Try.prog 12 #[.agg #[.int .i64 sz, .int .u32 (c : Int), .slice ho S.held.length hc], .agg #[.int .i64 f, .int .u32 (q : Int), .int .u64 s, .int .i64 v, .slice a dl dc, .string text]] w (RTook w B S [] 1) := by
  have hqz : ((q : Int) == 0) = true := by simp; omega
  clear hq0
  have E3 : RsB (((w.alloc (.cells #[.int .i64 sz, .int .u32 (c : Int), .slice ho S.held.length hc] 29)).alloc (.cells #[.int .i64 f, .int .u32 (q : Int), .int .u64 s, .int .i64 v, .slice a dl dc, .string text] 37)).alloc (.cells #[.int .i64 0, .int .u32 0, .slice none 0 0] 29)) w.heap.size sz c (.slice ho S.held.length hc) := (RsB.new w sz c _).below (((Grw.refl _).alloc _).alloc _).below
  have M3 : MgB (((w.alloc (.cells #[.int .i64 sz, .int .u32 (c : Int), .slice ho S.held.length hc] 29)).alloc (.cells #[.int .i64 f, .int .u32 (q : Int), .int .u64 s, .int .i64 v, .slice a dl dc, .string text] 37)).alloc (.cells #[.int .i64 0, .int .u32 0, .slice none 0 0] 29)) (w.heap.size + 1) ⟨f, (q : Int), s, v, a, dl, dc, deps, text⟩ := by
    have := (MgB.new (w.alloc (.cells #[.int .i64 sz, .int .u32 (c : Int), .slice ho S.held.length hc] 29)) ⟨f, (q : Int), s, v, a, dl, dc, deps, text⟩).later ((Grw.refl _).alloc (.cells #[.int .i64 0, .int .u32 0, .slice none 0 0] 29)).below
    rw [show (w.alloc (.cells #[.int .i64 sz, .int .u32 (c : Int), .slice ho S.held.length hc] 29)).heap.size = w.heap.size + 1 by simp] at this
    exact this
  have R3 : RsB (((w.alloc (.cells #[.int .i64 sz, .int .u32 (c : Int), .slice ho S.held.length hc] 29)).alloc (.cells #[.int .i64 f, .int .u32 (q : Int), .int .u64 s, .int .i64 v, .slice a dl dc, .string text] 37)).alloc (.cells #[.int .i64 0, .int .u32 0, .slice none 0 0] 29)) (w.heap.size + 2) 0 0 (.slice none 0 0) := by
    have := RsB.new ((w.alloc (.cells #[.int .i64 sz, .int .u32 (c : Int), .slice ho S.held.length hc] 29)).alloc (.cells #[.int .i64 f, .int .u32 (q : Int), .int .u64 s, .int .i64 v, .slice a dl dc, .string text] 37)) 0 0 (.slice none 0 0)
    rw [show ((w.alloc (.cells #[.int .i64 sz, .int .u32 (c : Int), .slice ho S.held.length hc] 29)).alloc (.cells #[.int .i64 f, .int .u32 (q : Int), .int .u64 s, .int .i64 v, .slice a dl dc, .string text] 37)).heap.size = w.heap.size + 2 by simp] at this
    exact this
  have L3 : Below w.heap.size w (((w.alloc (.cells #[.int .i64 sz, .int .u32 (c : Int), .slice ho S.held.length hc] 29)).alloc (.cells #[.int .i64 f, .int .u32 (q : Int), .int .u64 s, .int .i64 v, .slice a dl dc, .string text] 37)).alloc (.cells #[.int .i64 0, .int .u32 0, .slice none 0 0] 29)) := ((((Grw.refl w).alloc _).alloc _).alloc _).below
  have hz3 : (((w.alloc (.cells #[.int .i64 sz, .int .u32 (c : Int), .slice ho S.held.length hc] 29)).alloc (.cells #[.int .i64 f, .int .u32 (q : Int), .int .u64 s, .int .i64 v, .slice a dl dc, .string text] 37)).alloc (.cells #[.int .i64 0, .int .u32 0, .slice none 0 0] 29)).heap.size = w.heap.size + 3 := by simp
  have HL := Lib.hid hl
  have HD := Lib.hid hd
  have HC := Lib.hid (show (ho = none → hc = 0) ∧ S.held.length ≤ hc from ⟨hc0, hcl⟩)
  have HI := Lib.hid hI
  have HFT := Lib.hid hft
  have HSZ := Lib.hid hsz
  have HCS := Lib.hid hcs
  clear hl hd hc0 hcl hI hft hsz hcs
  go_enter Try.func12, Try.ntmps12
  go_upto_region 1 with fail
  generalize (((w.alloc (.cells #[.int .i64 sz, .int .u32 (c : Int), .slice ho S.held.length hc] 29)).alloc (.cells #[.int .i64 f, .int .u32 (q : Int), .int .u64 s, .int .i64 v, .slice a dl dc, .string text] 37)).alloc (.cells #[.int .i64 0, .int .u32 0, .slice none 0 0] 29)) = W at *
  have m1 := M3.own.at_ 1 _ rfl
  have v0 := E3.own.at_ 0 _ rfl
  have v1 := E3.own.at_ 1 _ rfl
  have v2 := E3.own.at_ 2 _ rfl
  obtain ⟨V, hV⟩ : ∃ V, V = W := ⟨_, rfl⟩
  have EV := E3
  have RV := R3
  have LV := Lib.hid L3
  rw [← hV] at EV RV LV
  subst hV
  have FIN := Lib.hid (rtook_same (V := V) (S := S) (k := 1) LV.out HL.out HC.out.1 HC.out.2 hB)
  have RV2 := Lib.hid RV
  rw [← HSZ.out, ← HCS.out] at FIN
  clear HL HD HC HI HFT
  go_wp2_with (first
    | (refine load_rs rfl (.tmp 2) rfl w.heap.size rfl EV ?_)
    | (refine store_rs rfl (.tmp 4) (.tmp 12) rfl (w.heap.size + 2) sz c ho S.held.length hc rfl rfl RV ?_))
  (try simp only [Exit.inBlock, Exit.then])
  exact bodyPost_ret (results_rs3 (p := 4) (u := 5) (u2 := 6) rfl _ _ (w.heap.size + 2) rfl (RV2.out.put sz c (.slice ho S.held.length hc))) rfl FIN.out

set_option maxHeartbeats 4000000 in
set_option maxRecDepth 100000 in
theorem rtake_12a {w : World} {B : Nat} {S : Sm Mg} {ho : Option Addr} {hc : Nat} (sz : Int) (c q : Nat) (hsz : sz = (S.size : Int)) (hcs : c = S.count) (hl : LikeAt w (newB B) ho S.held) (hc0 : ho = none → hc = 0) (hcl : S.held.length ≤ hc) (hI : SmInv sqG S) (f s v : Int) (a : Option Addr) (dl dc : Nat) (deps : List Int) (text : ByteArray) (hq4 : q < 4294967296) (hd : DpOff w (newB B) ⟨f, (q : Int), s, v, a, dl, dc, deps, text⟩) (hft : Fits S.held) (hB : B ≤ w.heap.size) (hcc : S.count ≤ 1000000) (hq0 : q ≠ 0) (hqc : q ≤ c) : Calls Try.prog 12 #[.agg #[.int .i64 sz, .int .u32 (c : Int), .slice ho S.held.length hc], .agg #[.int .i64 f, .int .u32 (q : Int), .int .u64 s, .int .i64 v, .slice a dl dc, .string text]] w (RTook w B S [] 12) := by
  have hqz : ((q : Int) == 0) = false := by simp; omega
  have hle : (q : Int) ≤ (c : Int) := by omega
  have E3 : RsB (((w.alloc (.cells #[.int .i64 sz, .int .u32 (c : Int), .slice ho S.held.length hc] 29)).alloc (.cells #[.int .i64 f, .int .u32 (q : Int), .int .u64 s, .int .i64 v, .slice a dl dc, .string text] 37)).alloc (.cells #[.int .i64 0, .int .u32 0, .slice none 0 0] 29)) w.heap.size sz c (.slice ho S.held.length hc) := (RsB.new w sz c _).below (((Grw.refl _).alloc _).alloc _).below
  have M3 : MgB (((w.alloc (.cells #[.int .i64 sz, .int .u32 (c : Int), .slice ho S.held.length hc] 29)).alloc (.cells #[.int .i64 f, .int .u32 (q : Int), .int .u64 s, .int .i64 v, .slice a dl dc, .string text] 37)).alloc (.cells #[.int .i64 0, .int .u32 0, .slice none 0 0] 29)) (w.heap.size + 1) ⟨f, (q : Int), s, v, a, dl, dc, deps, text⟩ := by
    have := (MgB.new (w.alloc (.cells #[.int .i64 sz, .int .u32 (c : Int), .slice ho S.held.length hc] 29)) ⟨f, (q : Int), s, v, a, dl, dc, deps, text⟩).later ((Grw.refl _).alloc (.cells #[.int .i64 0, .int .u32 0, .slice none 0 0] 29)).below
    rw [show (w.alloc (.cells #[.int .i64 sz, .int .u32 (c : Int), .slice ho S.held.length hc] 29)).heap.size = w.heap.size + 1 by simp] at this
    exact this
  have R3 : RsB (((w.alloc (.cells #[.int .i64 sz, .int .u32 (c : Int), .slice ho S.held.length hc] 29)).alloc (.cells #[.int .i64 f, .int .u32 (q : Int), .int .u64 s, .int .i64 v, .slice a dl dc, .string text] 37)).alloc (.cells #[.int .i64 0, .int .u32 0, .slice none 0 0] 29)) (w.heap.size + 2) 0 0 (.slice none 0 0) := by
    have := RsB.new ((w.alloc (.cells #[.int .i64 sz, .int .u32 (c : Int), .slice ho S.held.length hc] 29)).alloc (.cells #[.int .i64 f, .int .u32 (q : Int), .int .u64 s, .int .i64 v, .slice a dl dc, .string text] 37)) 0 0 (.slice none 0 0)
    rw [show ((w.alloc (.cells #[.int .i64 sz, .int .u32 (c : Int), .slice ho S.held.length hc] 29)).alloc (.cells #[.int .i64 f, .int .u32 (q : Int), .int .u64 s, .int .i64 v, .slice a dl dc, .string text] 37)).heap.size = w.heap.size + 2 by simp] at this
    exact this
  have L3 : Below w.heap.size w (((w.alloc (.cells #[.int .i64 sz, .int .u32 (c : Int), .slice ho S.held.length hc] 29)).alloc (.cells #[.int .i64 f, .int .u32 (q : Int), .int .u64 s, .int .i64 v, .slice a dl dc, .string text] 37)).alloc (.cells #[.int .i64 0, .int .u32 0, .slice none 0 0] 29)) := ((((Grw.refl w).alloc _).alloc _).alloc _).below
  have hz3 : (((w.alloc (.cells #[.int .i64 sz, .int .u32 (c : Int), .slice ho S.held.length hc] 29)).alloc (.cells #[.int .i64 f, .int .u32 (q : Int), .int .u64 s, .int .i64 v, .slice a dl dc, .string text] 37)).alloc (.cells #[.int .i64 0, .int .u32 0, .slice none 0 0] 29)).heap.size = w.heap.size + 3 := by simp
  have HL := Lib.hid hl
  have HD := Lib.hid hd
  have HC := Lib.hid (show (ho = none → hc = 0) ∧ S.held.length ≤ hc from ⟨hc0, hcl⟩)
  have HI := Lib.hid hI
  have HFT := Lib.hid hft
  have HSZ := Lib.hid hsz
  have HCS := Lib.hid hcs
  clear hl hd hc0 hcl hI hft hsz hcs
  go_enter Try.func12, Try.ntmps12
  go_upto_region 1 with fail
  generalize (((w.alloc (.cells #[.int .i64 sz, .int .u32 (c : Int), .slice ho S.held.length hc] 29)).alloc (.cells #[.int .i64 f, .int .u32 (q : Int), .int .u64 s, .int .i64 v, .slice a dl dc, .string text] 37)).alloc (.cells #[.int .i64 0, .int .u32 0, .slice none 0 0] 29)) = W at *
  have m1 := M3.own.at_ 1 _ rfl
  have v0 := E3.own.at_ 0 _ rfl
  have v1 := E3.own.at_ 1 _ rfl
  have v2 := E3.own.at_ 2 _ rfl
  obtain ⟨V, hV⟩ : ∃ V, V = W := ⟨_, rfl⟩
  have EV := E3
  have RV := R3
  have LV := Lib.hid L3
  rw [← hV] at EV RV LV
  subst hV
  have FIN := Lib.hid (rtook_same (V := V) (S := S) (k := 12) LV.out HL.out HC.out.1 HC.out.2 hB)
  have RV2 := Lib.hid RV
  rw [← HSZ.out, ← HCS.out] at FIN
  clear HL HD HC HI HFT
  go_wp2_with (first
    | (refine load_rs rfl (.tmp 2) rfl w.heap.size rfl EV ?_)
    | (refine store_rs rfl (.tmp 4) (.tmp 25) rfl (w.heap.size + 2) sz c ho S.held.length hc rfl rfl RV ?_))
  (try simp only [Exit.inBlock, Exit.then])
  exact bodyPost_ret (results_rs3 (p := 4) (u := 5) (u2 := 6) rfl _ _ (w.heap.size + 2) rfl (RV2.out.put sz c (.slice ho S.held.length hc))) rfl FIN.out

set_option maxHeartbeats 4000000 in
set_option maxRecDepth 100000 in
theorem rtake_12b {w : World} {B : Nat} {S : Sm Mg} {ho : Option Addr} {hc : Nat} (sz : Int) (c q : Nat) (hsz : sz = (S.size : Int)) (hcs : c = S.count) (hl : LikeAt w (newB B) ho S.held) (hc0 : ho = none → hc = 0) (hcl : S.held.length ≤ hc) (hI : SmInv sqG S) (f s v : Int) (a : Option Addr) (dl dc : Nat) (deps : List Int) (text : ByteArray) (hq4 : q < 4294967296) (hd : DpOff w (newB B) ⟨f, (q : Int), s, v, a, dl, dc, deps, text⟩) (hft : Fits S.held) (hB : B ≤ w.heap.size) (hcc : S.count ≤ 1000000) (hq0 : q ≠ 0) (hqc : ¬ q ≤ c) (i : Nat) (hi : idxI S.held q = (i : Int)) : Calls Try.prog 12 #[.agg #[.int .i64 sz, .int .u32 (c : Int), .slice ho S.held.length hc], .agg #[.int .i64 f, .int .u32 (q : Int), .int .u64 s, .int .i64 v, .slice a dl dc, .string text]] w (RTook w B S [] 12) := by
  have hqz : ((q : Int) == 0) = false := by simp; omega
  have hle : ¬ (q : Int) ≤ (c : Int) := by omega
  have HII := Lib.hid hi
  clear hi
  have E3 : RsB (((w.alloc (.cells #[.int .i64 sz, .int .u32 (c : Int), .slice ho S.held.length hc] 29)).alloc (.cells #[.int .i64 f, .int .u32 (q : Int), .int .u64 s, .int .i64 v, .slice a dl dc, .string text] 37)).alloc (.cells #[.int .i64 0, .int .u32 0, .slice none 0 0] 29)) w.heap.size sz c (.slice ho S.held.length hc) := (RsB.new w sz c _).below (((Grw.refl _).alloc _).alloc _).below
  have M3 : MgB (((w.alloc (.cells #[.int .i64 sz, .int .u32 (c : Int), .slice ho S.held.length hc] 29)).alloc (.cells #[.int .i64 f, .int .u32 (q : Int), .int .u64 s, .int .i64 v, .slice a dl dc, .string text] 37)).alloc (.cells #[.int .i64 0, .int .u32 0, .slice none 0 0] 29)) (w.heap.size + 1) ⟨f, (q : Int), s, v, a, dl, dc, deps, text⟩ := by
    have := (MgB.new (w.alloc (.cells #[.int .i64 sz, .int .u32 (c : Int), .slice ho S.held.length hc] 29)) ⟨f, (q : Int), s, v, a, dl, dc, deps, text⟩).later ((Grw.refl _).alloc (.cells #[.int .i64 0, .int .u32 0, .slice none 0 0] 29)).below
    rw [show (w.alloc (.cells #[.int .i64 sz, .int .u32 (c : Int), .slice ho S.held.length hc] 29)).heap.size = w.heap.size + 1 by simp] at this
    exact this
  have R3 : RsB (((w.alloc (.cells #[.int .i64 sz, .int .u32 (c : Int), .slice ho S.held.length hc] 29)).alloc (.cells #[.int .i64 f, .int .u32 (q : Int), .int .u64 s, .int .i64 v, .slice a dl dc, .string text] 37)).alloc (.cells #[.int .i64 0, .int .u32 0, .slice none 0 0] 29)) (w.heap.size + 2) 0 0 (.slice none 0 0) := by
    have := RsB.new ((w.alloc (.cells #[.int .i64 sz, .int .u32 (c : Int), .slice ho S.held.length hc] 29)).alloc (.cells #[.int .i64 f, .int .u32 (q : Int), .int .u64 s, .int .i64 v, .slice a dl dc, .string text] 37)) 0 0 (.slice none 0 0)
    rw [show ((w.alloc (.cells #[.int .i64 sz, .int .u32 (c : Int), .slice ho S.held.length hc] 29)).alloc (.cells #[.int .i64 f, .int .u32 (q : Int), .int .u64 s, .int .i64 v, .slice a dl dc, .string text] 37)).heap.size = w.heap.size + 2 by simp] at this
    exact this
  have L3 : Below w.heap.size w (((w.alloc (.cells #[.int .i64 sz, .int .u32 (c : Int), .slice ho S.held.length hc] 29)).alloc (.cells #[.int .i64 f, .int .u32 (q : Int), .int .u64 s, .int .i64 v, .slice a dl dc, .string text] 37)).alloc (.cells #[.int .i64 0, .int .u32 0, .slice none 0 0] 29)) := ((((Grw.refl w).alloc _).alloc _).alloc _).below
  have hz3 : (((w.alloc (.cells #[.int .i64 sz, .int .u32 (c : Int), .slice ho S.held.length hc] 29)).alloc (.cells #[.int .i64 f, .int .u32 (q : Int), .int .u64 s, .int .i64 v, .slice a dl dc, .string text] 37)).alloc (.cells #[.int .i64 0, .int .u32 0, .slice none 0 0] 29)).heap.size = w.heap.size + 3 := by simp
  have HL := Lib.hid hl
  have HD := Lib.hid hd
  have HC := Lib.hid (show (ho = none → hc = 0) ∧ S.held.length ≤ hc from ⟨hc0, hcl⟩)
  have HI := Lib.hid hI
  have HFT := Lib.hid hft
  have HSZ := Lib.hid hsz
  have HCS := Lib.hid hcs
  clear hl hd hc0 hcl hI hft hsz hcs
  go_enter Try.func12, Try.ntmps12
  go_upto_region 1 with fail
  generalize (((w.alloc (.cells #[.int .i64 sz, .int .u32 (c : Int), .slice ho S.held.length hc] 29)).alloc (.cells #[.int .i64 f, .int .u32 (q : Int), .int .u64 s, .int .i64 v, .slice a dl dc, .string text] 37)).alloc (.cells #[.int .i64 0, .int .u32 0, .slice none 0 0] 29)) = W at *
  have m1 := M3.own.at_ 1 _ rfl
  have v0 := E3.own.at_ 0 _ rfl
  have v1 := E3.own.at_ 1 _ rfl
  have v2 := E3.own.at_ 2 _ rfl
  have HFI := rfind (HL.out.below L3) HFT.out (by have := HI.out.few; omega) sz (c : Int) hc q hq4
  rw [HII.out] at HFI
  go_upto_region 4 with (first
    | (refine load_rs rfl (.tmp 2) rfl w.heap.size rfl E3 ?_)
    | (go_at_call 23; refine HFI.mono ?_; rintro e w1 ⟨rfl, G1⟩))
  have EV := E3.below G1.below
  have RV := R3.below G1.below
  have LV := Lib.hid (L3.trans (G1.below.mono L3.size))
  clear HFI E3 R3 M3 m1 v0 v1 v2 G1 L3
  obtain ⟨V, hV⟩ : ∃ V, V = w1 := ⟨_, rfl⟩
  subst hV
  have FIN := Lib.hid (rtook_same (V := V) (S := S) (k := 12) LV.out HL.out HC.out.1 HC.out.2 hB)
  have RV2 := Lib.hid RV
  rw [← HSZ.out, ← HCS.out] at FIN
  clear HL HD HC HI HFT
  go_wp2_with (first
    | (refine load_rs rfl (.tmp 2) rfl w.heap.size rfl EV ?_)
    | (refine store_rs rfl (.tmp 4) (.tmp 25) rfl (w.heap.size + 2) sz c ho S.held.length hc rfl rfl RV ?_))
  (try simp only [Exit.inBlock, Exit.then])
  exact bodyPost_ret (results_rs3 (p := 4) (u := 5) (u2 := 6) rfl _ _ (w.heap.size + 2) rfl (RV2.out.put sz c (.slice ho S.held.length hc))) rfl FIN.out

set_option maxHeartbeats 4000000 in
set_option maxRecDepth 100000 in
theorem rtake_6 {w : World} {B : Nat} {S : Sm Mg} {ho : Option Addr} {hc : Nat} (sz : Int) (c q : Nat) (hsz : sz = (S.size : Int)) (hcs : c = S.count) (hl : LikeAt w (newB B) ho S.held) (hc0 : ho = none → hc = 0) (hcl : S.held.length ≤ hc) (hI : SmInv sqG S) (f s v : Int) (a : Option Addr) (dl dc : Nat) (deps : List Int) (text : ByteArray) (hq4 : q < 4294967296) (hd : DpOff w (newB B) ⟨f, (q : Int), s, v, a, dl, dc, deps, text⟩) (hft : Fits S.held) (hB : B ≤ w.heap.size) (hcc : S.count ≤ 1000000) (hq0 : q ≠ 0) (hqc : ¬ q ≤ c) (hi : idxI S.held q = -1) (hf : (c : Int) + sz < (q : Int)) (hs1 : 0 ≤ sz) (hs2 : sz ≤ 64) (hc9 : c ≤ 1000000) : Calls Try.prog 12 #[.agg #[.int .i64 sz, .int .u32 (c : Int), .slice ho S.held.length hc], .agg #[.int .i64 f, .int .u32 (q : Int), .int .u64 s, .int .i64 v, .slice a dl dc, .string text]] w (RTook w B S [] 6) := by
  have hqz : ((q : Int) == 0) = false := by simp; omega
  have hle : ¬ (q : Int) ≤ (c : Int) := by omega
  have HII := Lib.hid hi
  clear hi
  have E3 : RsB (((w.alloc (.cells #[.int .i64 sz, .int .u32 (c : Int), .slice ho S.held.length hc] 29)).alloc (.cells #[.int .i64 f, .int .u32 (q : Int), .int .u64 s, .int .i64 v, .slice a dl dc, .string text] 37)).alloc (.cells #[.int .i64 0, .int .u32 0, .slice none 0 0] 29)) w.heap.size sz c (.slice ho S.held.length hc) := (RsB.new w sz c _).below (((Grw.refl _).alloc _).alloc _).below
  have M3 : MgB (((w.alloc (.cells #[.int .i64 sz, .int .u32 (c : Int), .slice ho S.held.length hc] 29)).alloc (.cells #[.int .i64 f, .int .u32 (q : Int), .int .u64 s, .int .i64 v, .slice a dl dc, .string text] 37)).alloc (.cells #[.int .i64 0, .int .u32 0, .slice none 0 0] 29)) (w.heap.size + 1) ⟨f, (q : Int), s, v, a, dl, dc, deps, text⟩ := by
    have := (MgB.new (w.alloc (.cells #[.int .i64 sz, .int .u32 (c : Int), .slice ho S.held.length hc] 29)) ⟨f, (q : Int), s, v, a, dl, dc, deps, text⟩).later ((Grw.refl _).alloc (.cells #[.int .i64 0, .int .u32 0, .slice none 0 0] 29)).below
    rw [show (w.alloc (.cells #[.int .i64 sz, .int .u32 (c : Int), .slice ho S.held.length hc] 29)).heap.size = w.heap.size + 1 by simp] at this
    exact this
  have R3 : RsB (((w.alloc (.cells #[.int .i64 sz, .int .u32 (c : Int), .slice ho S.held.length hc] 29)).alloc (.cells #[.int .i64 f, .int .u32 (q : Int), .int .u64 s, .int .i64 v, .slice a dl dc, .string text] 37)).alloc (.cells #[.int .i64 0, .int .u32 0, .slice none 0 0] 29)) (w.heap.size + 2) 0 0 (.slice none 0 0) := by
    have := RsB.new ((w.alloc (.cells #[.int .i64 sz, .int .u32 (c : Int), .slice ho S.held.length hc] 29)).alloc (.cells #[.int .i64 f, .int .u32 (q : Int), .int .u64 s, .int .i64 v, .slice a dl dc, .string text] 37)) 0 0 (.slice none 0 0)
    rw [show ((w.alloc (.cells #[.int .i64 sz, .int .u32 (c : Int), .slice ho S.held.length hc] 29)).alloc (.cells #[.int .i64 f, .int .u32 (q : Int), .int .u64 s, .int .i64 v, .slice a dl dc, .string text] 37)).heap.size = w.heap.size + 2 by simp] at this
    exact this
  have L3 : Below w.heap.size w (((w.alloc (.cells #[.int .i64 sz, .int .u32 (c : Int), .slice ho S.held.length hc] 29)).alloc (.cells #[.int .i64 f, .int .u32 (q : Int), .int .u64 s, .int .i64 v, .slice a dl dc, .string text] 37)).alloc (.cells #[.int .i64 0, .int .u32 0, .slice none 0 0] 29)) := ((((Grw.refl w).alloc _).alloc _).alloc _).below
  have hz3 : (((w.alloc (.cells #[.int .i64 sz, .int .u32 (c : Int), .slice ho S.held.length hc] 29)).alloc (.cells #[.int .i64 f, .int .u32 (q : Int), .int .u64 s, .int .i64 v, .slice a dl dc, .string text] 37)).alloc (.cells #[.int .i64 0, .int .u32 0, .slice none 0 0] 29)).heap.size = w.heap.size + 3 := by simp
  have HL := Lib.hid hl
  have HD := Lib.hid hd
  have HC := Lib.hid (show (ho = none → hc = 0) ∧ S.held.length ≤ hc from ⟨hc0, hcl⟩)
  have HI := Lib.hid hI
  have HFT := Lib.hid hft
  have HSZ := Lib.hid hsz
  have HCS := Lib.hid hcs
  clear hl hd hc0 hcl hI hft hsz hcs
  go_enter Try.func12, Try.ntmps12
  go_upto_region 1 with fail
  generalize (((w.alloc (.cells #[.int .i64 sz, .int .u32 (c : Int), .slice ho S.held.length hc] 29)).alloc (.cells #[.int .i64 f, .int .u32 (q : Int), .int .u64 s, .int .i64 v, .slice a dl dc, .string text] 37)).alloc (.cells #[.int .i64 0, .int .u32 0, .slice none 0 0] 29)) = W at *
  have m1 := M3.own.at_ 1 _ rfl
  have v0 := E3.own.at_ 0 _ rfl
  have v1 := E3.own.at_ 1 _ rfl
  have v2 := E3.own.at_ 2 _ rfl
  have HFI := rfind (HL.out.below L3) HFT.out (by have := HI.out.few; omega) sz (c : Int) hc q hq4
  rw [HII.out] at HFI
  go_upto_region 5 with (first
    | (refine load_rs rfl (.tmp 2) rfl w.heap.size rfl E3 ?_)
    | (go_at_call 23; refine HFI.mono ?_; rintro e w1 ⟨rfl, G1⟩))
  have EV := E3.below G1.below
  have RV := R3.below G1.below
  have MV := M3.later G1.below
  have LV := Lib.hid (L3.trans (G1.below.mono L3.size))
  have hzv := G1.below.size
  clear HFI E3 R3 M3 m1 v0 v1 v2 G1 L3
  obtain ⟨V, hV⟩ : ∃ V, V = w1 := ⟨_, rfl⟩
  subst hV
  have m1 := MV.own.at_ 1 _ rfl
  have v0 := EV.own.at_ 0 _ rfl
  have v1 := EV.own.at_ 1 _ rfl
  have v2 := EV.own.at_ 2 _ rfl
  have FIN := Lib.hid (rtook_same (V := V) (S := S) (k := 6) LV.out HL.out HC.out.1 HC.out.2 hB)
  have RV2 := Lib.hid RV
  rw [← HSZ.out, ← HCS.out] at FIN
  clear HL HD HC HI HFT
  go_wp2_with (first
    | (refine load_rs rfl (.tmp 2) rfl w.heap.size rfl EV ?_)
    | (refine store_rs rfl (.tmp 4) (.tmp 36) rfl (w.heap.size + 2) sz c ho S.held.length hc rfl rfl RV ?_))
  (try simp only [Exit.inBlock, Exit.then])
  exact bodyPost_ret (results_rs3 (p := 4) (u := 5) (u2 := 6) rfl _ _ (w.heap.size + 2) rfl (RV2.out.put sz c (.slice ho S.held.length hc))) rfl FIN.out

end Go.Proofs.Ytcnfkjjfegjecaa
