/- A stream behind some calls with messages of a list. (The same words as in StreamCopiesWalk.) -/
import Derived.Test.YtcnfkjjfegjecaaSRTake1
set_option linter.unusedVariables false
set_option linter.unusedSimpArgs false
namespace Go.Proofs.Ytcnfkjjfegjecaa
open Go.RowKit Go.Sort Go.Maps

/-- A stream behind at most k calls with messages of l. -/
def OrdL (l : List Mg) (k : Nat) (S : Sm Mg) : Prop := ∃ F1 A1, Ord sqG S F1 A1 ∧ (∀ m ∈ F1, m ∈ l) ∧ F1.length ≤ k
theorem OrdL.start (l : List Mg) (n : Int) : OrdL l 0 (newS n) := ⟨[], [], ⟨newS_inv n, rfl, fun i x h => by simp at h, (fun x h => by rcases h with h | h <;> cases h), rfl⟩, (fun m hm => by cases hm), Nat.le_refl _⟩
theorem OrdL.step {l : List Mg} {k : Nat} {S : Sm Mg} (h : OrdL l k S) {m : Mg} (hm : m ∈ l) : OrdL l (k + 1) (takeS sqG S m) := by
  obtain ⟨F1, A1, ho, hs, hl⟩ := h
  refine ⟨_, _, ho.step sqG m, ?_, ?_⟩
  · split
    · intro x hx
      rcases List.mem_append.1 hx with hx | hx
      · exact hs x hx
      · rw [List.mem_singleton.1 hx]; exact hm
    · exact hs
  · split
    · simp; omega
    · omega
theorem OrdL.inv {l : List Mg} {k : Nat} {S : Sm Mg} (h : OrdL l k S) : SmInv sqG S := by obtain ⟨F1, A1, ho, _⟩ := h; exact ho.inv
theorem OrdL.count {l : List Mg} {k : Nat} {S : Sm Mg} (h : OrdL l k S) : S.count ≤ k := by
  obtain ⟨F1, A1, ho, _, hl⟩ := h
  have := ho.count
  have := ho.len
  omega
theorem OrdL.held {l : List Mg} {k : Nat} {S : Sm Mg} (h : OrdL l k S) : ∀ m ∈ S.held, m ∈ l := by
  obtain ⟨F1, A1, ho, hs, _⟩ := h
  exact fun m hm => hs m (ho.mem m (.inr hm))
/-- The blocks of a stream, and of the document's. -/
def F3 (g b em : Nat) : Nat → Prop := fun k => k = g ∨ k = b ∨ k = em
theorem grown_row (w : World) (g : Nat) (cs : Array Value) : w.grownBy (w.setRow g cs) (some g) := ⟨rfl, rfl, rfl, by rw [size_setRow]; exact Nat.le_refl _, fun k hk hn => setRow_other _ _ _ _ (by intro e; exact hn (by rw [e]))⟩
/-- The document's rows beside its block. -/
theorem LikeAt.off {w w' : World} {B em : Nat} {sz : Int} {c : Nat} {v : Value} {ho : Option Addr} {l : List Mg} (h : LikeAt w (newB B) ho l) (hE : RsB w em sz c v) (hg : w.grownBy w' (some em)) (hB : B ≤ em) : LikeAt w' (newB B) ho l := by
  obtain ⟨L, hL, hl, hEl⟩ := h
  refine ⟨L, ⟨hL.size, fun h0 => ?_⟩, hl, fun i x y hx hy => ⟨(hEl i x y hx hy).1, (hEl i x y hx hy).2.kept fun k hk hn => hg.block k hk (fun e => by injection e with e; exact hn (by rw [e]; exact hB))⟩⟩
  obtain ⟨k, o, e, R⟩ := hL.src h0
  refine ⟨k, o, e, fun i x hx d v hv => ?_⟩
  have h1 := R i x hx d v hv
  have h5 := R i x hx 5 _ rfl
  have hke : k ≠ em := by
    rintro rfl
    rw [cell_of_row _ _ _ _ _ _ hE.own.is, Array.getElem?_eq_none (by show 3 ≤ o + i * 6 + 5; omega)] at h5
    cases h5
  exact (World.cell?_of_block (w := w) (hg.block k (World.block_lt_of_cell? _ _ h1) (fun e => hke (by injection e)))).trans h1
/-- Both streams. -/
structure PlSt (w wr : World) (g b em k : Nat) (l : List Mg) (S : Sm Mg) (ho : Option Addr) (hc : Nat) : Prop where
  rep : SmRep wr (F3 g b em) g b S
  blk : RsB wr em (S.size : Int) S.count (.slice ho S.held.length hc)
  row : LikeAt wr (newB w.heap.size) ho S.held
  nil : ho = none → hc = 0
  cap : S.held.length ≤ hc
  ord : OrdL l k S
  bel : Below w.heap.size w wr
/-- Behind the program's Take. -/
structure PlMid (w wr : World) (g b em k : Nat) (l : List Mg) (S S' : Sm Mg) (ho : Option Addr) (hc : Nat) (out : List Mg) (b0 : Nat) (oo : Option Addr) (oc : Nat) : Prop where
  rep : SmRep wr (F3 g b em) g b S'
  blk : RsB wr em (S.size : Int) S.count (.slice ho S.held.length hc)
  row : LikeAt wr (newB w.heap.size) ho S.held
  out : OutAt wr (F3 g b em) b0 oo oc out
  bel : Below w.heap.size w wr
  b0 : em < b0
theorem PlSt.took {w wr w' : World} {g b em k : Nat} {l : List Mg} {S S' : Sm Mg} {ho : Option Addr} {hc : Nat} (h : PlSt w wr g b em k l S ho hc) (hg : w.heap.size ≤ g) (hb : w.heap.size ≤ b) (hge : g < em) (hbe : b < em) {out : List Mg} {oo : Option Addr} {oc : Nat}
    (hR : SmRep w' (F3 g b em) g b S') (hO : OutAt w' (F3 g b em) wr.heap.size oo oc out) (hM : Mv g b wr w') : PlMid w w' g b em k l S S' ho hc out wr.heap.size oo oc := by
  have he := h.blk.lt
  obtain ⟨H, hS, _⟩ := h.rep.ex
  exact ⟨hR, (hM.block em he (by omega) (by omega)).trans h.blk, h.row.mv hS hM hg hb, hO, h.bel.trans (hM.below h.bel.size hg hb), he⟩
theorem PlMid.later {w wr w' : World} {g b em k : Nat} {l : List Mg} {S S' : Sm Mg} {ho : Option Addr} {hc : Nat} {out : List Mg} {b0 : Nat} {oo : Option Addr} {oc : Nat} (h : PlMid w wr g b em k l S S' ho hc out b0 oo oc) (hb : Below wr.heap.size wr w') : PlMid w w' g b em k l S S' ho hc out b0 oo oc :=
  ⟨h.rep.below hb, h.blk.below hb, h.row.below hb, h.out.below hb, h.bel.trans (hb.mono h.bel.size), h.b0⟩
/-- Behind both. -/
theorem PlMid.done {w w6 : World} {g b em k : Nat} {l : List Mg} {S S' : Sm Mg} {ho : Option Addr} {hc : Nat} {out : List Mg} {b0 : Nat} {oo : Option Addr} {oc : Nat} (h : PlMid w w6 g b em k l S S' ho hc out b0 oo oc) (hg : g < em) (hb : b < em) (hwe : w.heap.size ≤ em) {h2 : Option Addr} {c2 : Nat} {o2 : Option Addr}
    (hrow : LikeAt w6 (newB w.heap.size) h2 S'.held) (hwant : LikeAt w6 (newB w.heap.size) o2 out) (hnil : h2 = none → c2 = 0) (hcap : S'.held.length ≤ c2) {k' : Nat} (ho : OrdL l k' S') :
    PlSt w (w6.setRow em #[.int .i64 (S'.size : Int), .int .u32 (S'.count : Int), .slice h2 S'.held.length c2]) g b em k' l S' h2 c2 ∧ LikeAt (w6.setRow em #[.int .i64 (S'.size : Int), .int .u32 (S'.count : Int), .slice h2 S'.held.length c2]) (newB w.heap.size) o2 out ∧
      OutAt (w6.setRow em #[.int .i64 (S'.size : Int), .int .u32 (S'.count : Int), .slice h2 S'.held.length c2]) (F3 g b em) b0 oo oc out := by
  have hG := grown_row w6 em #[.int .i64 (S'.size : Int), .int .u32 (S'.count : Int), .slice h2 S'.held.length c2]
  have hb0 := h.b0
  refine ⟨⟨h.rep.grown hG (fun k hk => by cases hk; exact ⟨.inr (.inr rfl), by omega, by omega⟩), h.blk.put _ _ _, hrow.off h.blk hG hwe, hnil, hcap, ho, h.bel.grown hG h.bel.size (fun k hk => by cases hk; exact hwe)⟩, hwant.off h.blk hG hwe, h.out.kept (fun k hk hn => hG.block k hk (fun e => by injection e with e; exact hn (.inr (.inr e)))) (fun x e hk => hG.block _ hk (fun e2 => by injection e2 with e2; have := h.out.place x e; omega))⟩
theorem rs_put3 {w : World} {en : Nat} {sz0 : Int} {c0 : Nat} {v0 : Value} (E : RsB w en sz0 c0 v0) (sz : Int) (c : Nat) (v : Value) : RsB (w.setCells en 0 [.int .i64 sz, .int .u32 (c : Int), v]) en sz c v ∧ w.grownBy (w.setCells en 0 [.int .i64 sz, .int .u32 (c : Int), v]) (some en) := by
  have e : w.setCells en 0 [.int .i64 sz, .int .u32 (c : Int), v] = ((w.setCell ⟨en, 0, none⟩ (.int .i64 sz)).setCell ⟨en, 1, none⟩ (.int .u32 (c : Int))).setCell ⟨en, 2, none⟩ v := rfl
  rw [e]
  refine ⟨((E.own.set 0 _).set 1 _).set 2 _, rfl, rfl, rfl, by simp, fun k hk hn => ?_⟩
  have hke : k ≠ en := fun e => hn (by rw [e])
  rw [heap_setCell_other _ _ _ _ hke, heap_setCell_other _ _ _ _ hke, heap_setCell_other _ _ _ _ hke]
theorem rs_there {w : World} {g : Nat} {sz : Int} {c : Nat} {v : Value} (h : RsB w g sz c v) : w.there g 0 3 := by
  intro j hj
  rw [Nat.zero_add]
  have h0 := h.own.at_ 0 _ rfl
  have h1 := h.own.at_ 1 _ rfl
  have h2 := h.own.at_ 2 _ rfl
  refine ⟨?_, h.own.free j⟩
  match j, hj with
  | 0, _ => rw [h0]; rfl
  | 1, _ => rw [h1]; rfl
  | 2, _ => rw [h2]; rfl
end Go.Proofs.Ytcnfkjjfegjecaa
