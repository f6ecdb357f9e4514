/- A hold with one message more, and with some dropped: the worlds behind the writes. -/
import Derived.Test.YtafenlacacghoaaHdFrom
set_option linter.unusedVariables false
set_option linter.unusedSimpArgs false
namespace Go.Proofs.Ytafenlacacghoaa
open Go.RowKit Go.Sort

/-- The hold's blocks, and all that a call made. -/
def newF (F : Nat → Prop) (w w' : World) : Nat → Prop := fun k => F k ∨ (w.heap.size ≤ k ∧ k < w'.heap.size)
theorem Sl.block {s : Sl} {k : Nat} (h : s.v.ownBlock = some k) : ∃ x, s.a = some x ∧ x.block = k := by
  obtain ⟨a, n, c⟩ := s
  cases a with
  | none => simp [Sl.v, Value.ownBlock] at h
  | some x => simp [Sl.v, Value.ownBlock] at h; exact ⟨x, rfl, h⟩
theorem typ_ne {w : World} {a b : Nat} {ca cb : Array Value} {ta tb : TypeId} (ha : w.heap[a]? = some (.cells ca ta (0, 0))) (hb : w.heap[b]? = some (.cells cb tb (0, 0))) (h : ta ≠ tb) : a ≠ b := by
  rintro rfl
  rw [ha] at hb
  injection hb with hb
  injection hb with _ hb _
  exact h hb
section
variable {w : World} {F : Nat → Prop} {g N : Nat} {lo : Nat → Nat} {sl : Nat → Sl} {X : Nat → List Mg}
theorem HAt.slot_ne (h : HAt w F g N lo sl X) (p : Nat) (hp : p < 64) (x : Addr) (hx : (sl p).a = some x) : x.block ≠ g := by
  obtain ⟨cur, hc⟩ := (h.slot p hp).typ x hx
  exact typ_ne hc h.own (by decide)
set_option maxHeartbeats 1000000 in
theorem HAt.put (h : HAt w F g N lo sl X) {W W' : World} (HB : Below w.heap.size w W) {k : Nat} (hk : k < 64) {x : Mg} (hx : DpT W (fun j => w.heap.size ≤ j) x) {s' : Sl} (hs : SlotAt W' s' (X k ++ [x])) (hg : W.grownBy W' (sl k).v.ownBlock)
    (hloc : ∃ y, s'.a = some y ∧ ((∃ z, (sl k).a = some z ∧ z.block = y.block) ∨ W.heap.size ≤ y.block)) :
    HAt (W'.setCell ⟨g, 64 + k, none⟩ s'.v) (newF F w (W'.setCell ⟨g, 64 + k, none⟩ s'.v)) g (N + 1) lo (updF sl k s') (updF X k (X k ++ [x])) ∧ Chg F w (W'.setCell ⟨g, 64 + k, none⟩ s'.v) := by
  obtain ⟨y, hy, hyl⟩ := hloc
  have hsz : (W'.setCell ⟨g, 64 + k, none⟩ s'.v).heap.size = W'.heap.size := by simp [World.setCell]
  have h1 := h.below HB
  have s1 := HB.size
  have s2 := hg.size
  have hgo : some g ≠ (sl k).v.ownBlock := fun e => by
    obtain ⟨z, hz, e2⟩ := Sl.block e.symm
    exact h1.slot_ne k hk z hz e2
  have o2 : Own W' g 69 (hC lo sl).toArray := h1.own.grown hg hgo
  have o3 := o2.set (64 + k) s'.v
  rw [hC_set_sl _ _ _ _ hk] at o3
  have hset : ∀ j, j ≠ g → (W'.setCell ⟨g, 64 + k, none⟩ s'.v).heap[j]? = W'.heap[j]? := fun j hj => heap_setCell_other W' _ j _ hj
  obtain ⟨cy, hcy⟩ := hs.typ y hy
  have hyg : y.block ≠ g := typ_ne hcy o2 (by decide)
  have hylt := hs.lt y hy
  -- what neither the append nor the store turns
  have keep : ∀ j, j < W.heap.size → j ≠ g → (∀ z, (sl k).a = some z → j ≠ z.block) → (W'.setCell ⟨g, 64 + k, none⟩ s'.v).heap[j]? = W.heap[j]? := fun j hj h2 h3 => (hset j h2).trans (hg.block j hj fun e => by
    obtain ⟨z, hz, e2⟩ := Sl.block e.symm
    exact h3 z hz e2.symm)
  have keepD : ∀ (E : Nat → Prop) (z : Mg), DpT W E z → DpT (W'.setCell ⟨g, 64 + k, none⟩ s'.v) E z := fun E z hz => hz.kept fun ad e => keep _ (hz.lt ad e) (hz.ne_hold ad e h1.own) fun u hu => by
    obtain ⟨cu, hcu⟩ := (h1.slot k hk).typ u hu
    exact hz.ne ad e hcu
  refine ⟨⟨o3, .inl h.fg, fun j hj => ?_, fun p hp => ?_, fun p hp z hz => ?_, fun p q hp hq hpq z u hz hu => ?_, fun p hp z hz => ?_, fun p hp => ?_⟩, ?_⟩
  · rcases hj with hj | hj
    · have := h.lim j hj; omega
    · exact hj.2
  · by_cases e : p = k
    · subst e
      rw [updF_same, updF_same]
      exact hs.kept fun z hz => by
        rw [hy] at hz; cases hz
        exact hset _ hyg
    · rw [updF_other _ _ _ _ e, updF_other _ _ _ _ e]
      refine (h1.slot p hp).kept fun z hz => keep _ ((h1.slot p hp).lt z hz) (h1.slot_ne p hp z hz) fun u hu => h1.apart p k hp hk e z u hz hu
  · by_cases e : p = k
    · subst e
      rw [updF_same] at hz
      rw [hy] at hz; cases hz
      rcases hyl with ⟨u, hu, e2⟩ | e2
      · exact .inl (e2 ▸ h.inF p hp u hu)
      · exact .inr ⟨by omega, by omega⟩
    · rw [updF_other _ _ _ _ e] at hz
      exact .inl (h.inF p hp z hz)
  · by_cases e : p = k
    · subst e
      rw [updF_same] at hz
      rw [updF_other _ _ _ _ (fun e => hpq e.symm)] at hu
      rw [hy] at hz; cases hz
      rcases hyl with ⟨v, hv, e2⟩ | e2
      · rw [← e2]; exact h.apart p q hp hq hpq v u hv hu
      · have := (h.slot q hq).lt u hu; omega
    · rw [updF_other _ _ _ _ e] at hz
      by_cases e2 : q = k
      · subst e2
        rw [updF_same] at hu
        rw [hy] at hu; cases hu
        rcases hyl with ⟨v, hv, e2⟩ | e2
        · rw [← e2]; exact h.apart p q hp hq hpq z v hz hv
        · have := (h.slot p hp).lt z hz; omega
      · rw [updF_other _ _ _ _ e2] at hu
        exact h.apart p q hp hq hpq z u hz hu
  · by_cases e : p = k
    · subst e
      rw [updF_same] at hz
      rcases List.mem_append.1 hz with hz | hz
      · exact (keepD _ _ (h1.deps p hp z hz)).more fun j _ hj => .inl hj
      · rw [List.mem_singleton.1 hz]
        exact (keepD _ _ hx).more fun j hj hj2 => .inr ⟨hj2, hj⟩
    · rw [updF_other _ _ _ _ e] at hz
      exact (keepD _ _ (h1.deps p hp z hz)).more fun j _ hj => .inl hj
  · have := h.bnd p hp
    by_cases e : p = k
    · subst e
      rw [updF_same, List.length_append, List.length_singleton]
      omega
    · rw [updF_other _ _ _ _ e]; omega
  · have c1 : Chg F w W := Chg.of_below HB
    have c2 : Chg F w W' := c1.to (Chg.grown (D := F) hg fun j hj => by
      obtain ⟨z, hz, e2⟩ := Sl.block hj
      exact e2 ▸ h.inF k hk z hz) fun _ _ e => e
    exact c2.to (Chg.grown (D := F) (grown_set W' g (64 + k) s'.v) fun j hj => by cases hj; exact h.fg) fun _ _ e => e

set_option maxHeartbeats 1000000 in
theorem HAt.drop (h : HAt w F g N lo sl X) {k : Nat} (hk : k < 64) {m : Nat} (hm : m ≤ (sl k).n) {W : World} (hW : ∀ j, (∀ z, (sl k).a = some z → j ≠ z.block) → W.heap[j]? = w.heap[j]?) (hsW : W.heap.size = w.heap.size) (ho : W.os = w.os ∧ W.tape = w.tape ∧ W.output = w.output)
    (hs : SlotAt W ((sl k).from_ m) ((X k).drop m)) :
    HAt ((W.setCell ⟨g, 64 + k, none⟩ ((sl k).from_ m).v).setCell ⟨g, k, none⟩ (.int .u32 ((lo k + m : Nat) : Int))) F g N (updF lo k (lo k + m)) (updF sl k ((sl k).from_ m)) (updF X k ((X k).drop m)) ∧
      Chg F w ((W.setCell ⟨g, 64 + k, none⟩ ((sl k).from_ m).v).setCell ⟨g, k, none⟩ (.int .u32 ((lo k + m : Nat) : Int))) := by
  have hsz : ((W.setCell ⟨g, 64 + k, none⟩ ((sl k).from_ m).v).setCell ⟨g, k, none⟩ (.int .u32 ((lo k + m : Nat) : Int))).heap.size = w.heap.size := by rw [← hsW]; simp [World.setCell]
  have o1 : Own W g 69 (hC lo sl).toArray := (hW g fun z hz e => h.slot_ne k hk z hz e.symm).trans h.own
  have o2 := o1.set (64 + k) ((sl k).from_ m).v
  rw [hC_set_sl _ _ _ _ hk] at o2
  have o3 := o2.set k (.int .u32 ((lo k + m : Nat) : Int))
  rw [hC_set_lo _ _ _ _ hk] at o3
  have hset : ∀ j, j ≠ g → ((W.setCell ⟨g, 64 + k, none⟩ ((sl k).from_ m).v).setCell ⟨g, k, none⟩ (.int .u32 ((lo k + m : Nat) : Int))).heap[j]? = W.heap[j]? := fun j hj => (heap_setCell_other _ _ j _ hj).trans (heap_setCell_other W _ j _ hj)
  have keepD : ∀ z, DpT w F z → DpT ((W.setCell ⟨g, 64 + k, none⟩ ((sl k).from_ m).v).setCell ⟨g, k, none⟩ (.int .u32 ((lo k + m : Nat) : Int))) F z := fun z hz => hz.kept fun ad e => (hset _ (hz.ne_hold ad e h.own)).trans (hW _ fun u hu => by
    obtain ⟨cu, hcu⟩ := (h.slot k hk).typ u hu
    exact hz.ne ad e hcu)
  refine ⟨⟨o3, h.fg, fun j hj => by rw [hsz]; exact h.lim j hj, fun p hp => ?_, fun p hp z hz => ?_, fun p q hp hq hpq z u hz hu => ?_, fun p hp z hz => ?_, fun p hp => ?_⟩, ?_⟩
  · by_cases e : p = k
    · subst e
      rw [updF_same, updF_same]
      refine hs.kept fun z hz => hset _ fun e => ?_
      obtain ⟨y, hy, e2⟩ := from_block hz
      exact h.slot_ne p hp y hy (e2.trans e)
    · rw [updF_other _ _ _ _ e, updF_other _ _ _ _ e]
      exact (h.slot p hp).kept fun z hz => (hset _ (h.slot_ne p hp z hz)).trans (hW _ fun u hu => h.apart p k hp hk e z u hz hu)
  · by_cases e : p = k
    · subst e
      rw [updF_same] at hz
      obtain ⟨y, hy, e2⟩ := from_block hz
      exact e2 ▸ h.inF p hp y hy
    · rw [updF_other _ _ _ _ e] at hz
      exact h.inF p hp z hz
  · by_cases e : p = k
    · subst e
      rw [updF_same] at hz
      rw [updF_other _ _ _ _ (fun e => hpq e.symm)] at hu
      obtain ⟨y, hy, e2⟩ := from_block hz
      rw [← e2]; exact h.apart p q hp hq hpq y u hy hu
    · rw [updF_other _ _ _ _ e] at hz
      by_cases e2 : q = k
      · subst e2
        rw [updF_same] at hu
        obtain ⟨y, hy, e2⟩ := from_block hu
        rw [← e2]; exact h.apart p q hp hq hpq z y hz hy
      · rw [updF_other _ _ _ _ e2] at hu
        exact h.apart p q hp hq hpq z u hz hu
  · by_cases e : p = k
    · subst e
      rw [updF_same] at hz
      exact keepD z (h.deps p hp z (List.mem_of_mem_drop hz))
    · rw [updF_other _ _ _ _ e] at hz
      exact keepD z (h.deps p hp z hz)
  · have := h.bnd p hp
    have := h.len k hk
    by_cases e : p = k
    · subst e
      rw [updF_same, updF_same, List.length_drop]
      omega
    · rw [updF_other _ _ _ _ e, updF_other _ _ _ _ e]; omega
  · refine ⟨ho.1, ho.2.1, ho.2.2, by omega, fun j hj hn => (hset j fun e => hn (e ▸ h.fg)).trans (hW j fun z hz e => hn (e ▸ h.inF k hk z hz))⟩
end
end Go.Proofs.Ytafenlacacghoaa
