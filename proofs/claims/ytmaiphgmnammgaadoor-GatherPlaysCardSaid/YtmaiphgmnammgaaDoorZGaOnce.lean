/- Layer 16: told once, done once: whose exchange came first. -/
import Derived.Test.YtmaiphgmnammgaaDoorZGaDo
import Derived.Test.YtmaiphgmnammgaaDoorZGrSame2
set_option linter.unusedVariables false
set_option maxRecDepth 100000
set_option linter.unusedSimpArgs false
namespace Go.Proofs.YtmaiphgmnammgaaDoor
open Go.RowKit Go.Sort Go.Maps

/-! ### Plain -/
/-- Amid the acts: the first exchange of each, how often it was told, and done. -/
structure OnR (M : Nat) (S : Gt) (F : List Xg) (t d : Int) : Prop where
  m : S.M = M
  n : F.length = S.n
  ins : ∀ z, (S.H z).isSome = true ↔ ∃ f ∈ F, f.w = z
  eqs : ∀ k y, S.H k = some y → ∃ f ∈ F, stripX f = stripX y
  t : toldG S = false → t = 0
  d : doneG S = false → d = 0
theorem OnR.new (e r : Int) (M : Nat) : OnR M (newG e r M) [] 0 0 :=
  ⟨rfl, rfl, (fun z => ⟨(fun h => by cases h), (fun ⟨f, hf, _⟩ => by cases hf)⟩), (fun k y h => by cases h), (fun _ => rfl), (fun _ => rfl)⟩
/-- None of the first k has it. -/
def newK (F : List Xg) (k : Nat) (z : Int) : Bool := (F.take k).all fun f => decide (f.w ≠ z)
theorem newK_next {F : List Xg} {k : Nat} {z : Int} {f : Xg} (h : F[k]? = some f) : newK F (k + 1) z = (newK F k z && decide (f.w ≠ z)) := by
  unfold newK
  rw [List.take_add_one, h, List.all_append]
  simp
section
variable {M : Nat} {S : Gt} {F : List Xg} {t d : Int}
theorem OnR.fresh (h : OnR M S F t d) (z : Int) : freshG S z = (mem M z && newK F F.length z) := by
  unfold freshG newK
  rw [h.m, List.take_length]
  congr 1
  cases hh : S.H z with
  | none =>
    symm
    rw [show (none : Option Xg).isNone = true from rfl, List.all_eq_true]
    intro f hf
    refine decide_eq_true fun e => ?_
    have := (h.ins z).2 ⟨f, hf, e⟩
    rw [hh] at this
    cases this
  | some y =>
    obtain ⟨f, hf, e⟩ := (h.ins z).1 (by rw [hh]; rfl)
    rw [show (some y).isNone = false from rfl]
    symm
    rw [List.all_eq_false]
    exact ⟨f, hf, by simp [e]⟩
theorem OnR.was (h : OnR M S F t d) (ok : GtOk S) {z : Int} (hf : freshG S z = true) : t = 0 := by
  refine h.t ?_
  unfold toldG
  have := (ok.fresh hf).1
  exact decide_eq_false (by omega)
theorem OnR.old (h : OnR M S F t d) {y : Xg} (hf : freshG S y.w = false) : OnR M (addG S y) F t d := by rw [(add_no hf).1]; exact h
theorem OnR.add (h : OnR M S F t d) (ok : GtOk S) {x y : Xg} (hs : stripX y = stripX x) (hf : freshG S y.w = true) {t2 : Int} (ht : toldG (addG S y) = false → t2 = 0) : OnR M (addG S y) (F ++ [x]) t2 d := by
  have hw : y.w = x.w := stripX_w hs
  have hyes := add_yes hf
  refine ⟨by rw [hyes]; exact h.m, by rw [hyes, List.length_append, h.n]; rfl, fun z => ?_, fun k u hu => ?_, ht, fun hd => h.d ?_⟩
  · rw [hyes]
    show (setI S.H y.w (some y) z).isSome = true ↔ _
    by_cases e : z = y.w
    · subst e
      rw [setI_same]
      exact ⟨fun _ => ⟨x, by simp, hw.symm⟩, fun _ => rfl⟩
    · rw [setI_other _ _ _ e, h.ins z]
      constructor
      · rintro ⟨f, hf, e2⟩; exact ⟨f, List.mem_append_left _ hf, e2⟩
      · rintro ⟨f, hf, e2⟩
        rcases List.mem_append.1 hf with hf | hf
        · exact ⟨f, hf, e2⟩
        · rw [List.mem_singleton.1 hf] at e2
          exact absurd (e2.symm.trans hw.symm) e
  · rw [hyes] at hu
    have hu : setI S.H y.w (some y) k = some u := hu
    by_cases e : k = y.w
    · subst e
      rw [setI_same] at hu
      injection hu with hu
      subst hu
      exact ⟨x, by simp, hs.symm⟩
    · rw [setI_other _ _ _ e] at hu
      obtain ⟨f, hf, e2⟩ := h.eqs k u hu
      exact ⟨f, List.mem_append_left _ hf, e2⟩
  · rw [hyes] at hd; exact hd
theorem ready_same {z : Int} (h : toldG S = false ∨ mem S.M z = false) : readyG S z = S ∧ readyB S z = false := by
  have hno : readyOk S z = false := by
    unfold readyOk
    rcases h with h | h
    · rw [h]; rfl
    · cases hm : mem (waitG S) z with
      | false => simp
      | true =>
        exfalso
        obtain ⟨h0, h1, h2⟩ := mem_lt hm
        rw [wait_bit _ _ (by omega)] at h2
        simp only [Bool.and_eq_true] at h2
        rw [mem_of h0 h1 h2.1] at h
        cases h
  unfold readyG readyB
  rw [hno]
  exact ⟨if_neg (by decide), rfl⟩
theorem ready_any (ok : GtOk S) {z : Int} (ht : toldG S = true) (hm : mem S.M z = true) : any S.Y (onl z) = (readyG S z).Y := by
  unfold readyG
  cases hr : readyOk S z with
  | true => rw [if_pos rfl]
  | false =>
    rw [if_neg (by decide)]
    obtain ⟨h0, h1, h2⟩ := mem_lt hm
    refine set_ext _ _ (any_lt _ _) ok.y fun i hi => ?_
    rw [any_onl_bit _ _ _ hi]
    by_cases e : (i : Int) = z
    · cases hy : S.Y.testBit i with
      | true => simp
      | false =>
        exfalso
        have : readyOk S z = true := by
          unfold readyOk
          rw [ht, mem_of h0 h1 (by rw [wait_bit _ _ (by omega), if_pos ht, h2, show z.toNat = i by omega, hy]; rfl)]; rfl
        rw [hr] at this
        cases this
    · rw [decide_eq_false e]; simp
theorem OnR.ready (h : OnR M S F t d) (z : Int) {d2 : Int} (hd : doneG (readyG S z) = false → d2 = 0) : OnR M (readyG S z) F t d2 := by
  have e : (readyG S z).M = S.M ∧ (readyG S z).n = S.n ∧ (readyG S z).H = S.H := by
    unfold readyG; split <;> exact ⟨rfl, rfl, rfl⟩
  exact ⟨by rw [e.1]; exact h.m, by rw [e.2.1]; exact h.n, by rw [e.2.2]; exact h.ins, by rw [e.2.2]; exact h.eqs, by rw [told_ready]; exact h.t, hd⟩
theorem OnR.rest (h : OnR M S F t d) (ok : GtOk S) (z : Int) (hd : doneG (readyG S z) = false) : d = 0 := by
  refine h.d ?_
  cases hr : readyOk S z with
  | false => unfold readyG at hd; rw [hr, if_neg (by decide)] at hd; exact hd
  | true =>
    obtain ⟨h0, h1, h2, h3, h4⟩ := ready_in hr
    unfold doneG
    exact decide_eq_false fun e => by rw [e, h3] at h4; cases h4
theorem OnR.wasd (h : OnR M S F t d) {z : Int} (hb : readyB S z = true) : d = 0 ∧ doneG (readyG S z) = true := by
  rw [ready_done] at hb
  simp only [Bool.and_eq_true] at hb
  refine ⟨h.d ?_, hb.2⟩
  obtain ⟨h0, h1, h2, h3, h4⟩ := ready_in hb.1
  unfold doneG
  exact decide_eq_false fun e => by rw [e, h3] at h4; cases h4
theorem done_told (ok : GtOk S) (h : toldG S = false) : doneG S = false := by
  unfold doneG
  refine decide_eq_false fun e => ?_
  have := ok.done e
  unfold toldG at h
  exact of_decide_eq_false h this
/-! ### All of them -/
theorem exL_num (ok : GtOk S) : (exL S).length = S.n := by
  unfold exL exN
  rw [List.length_filterMap_eq_countP, ok.num]
  unfold lst cnt
  rw [List.countP_filter]
  refine List.countP_congr fun p hp => ?_
  have hp := List.mem_range.1 hp
  unfold told
  simp only [Bool.and_eq_true]
  exact ⟨fun h => h.1, fun h => ⟨h, ok.in_ p hp h⟩⟩
theorem exL_rise (ok : GtOk S) : (exL S).Pairwise (fun a b => a.w < b.w) := by
  unfold exL exN
  refine List.Pairwise.filterMap _ (fun a a' haa b hb b' hb' => ?_) (lst_rises S.M)
  have h1 := (ok.key _ _ hb).2.2.2
  have h2 := (ok.key _ _ hb').2.2.2
  omega
theorem rise_at {X : List Xg} (hs : X.map stripX = (exL S).map stripX) (ok : GtOk S) {j : Nat} {x y : Xg} (hx : X[j]? = some x) (hy : X[j + 1]? = some y) : x.w < y.w := by
  have h1 : (X.map stripX).Pairwise (fun a b => a.w < b.w) := by
    rw [hs, List.pairwise_map]
    exact exL_rise ok
  rw [List.pairwise_map] at h1
  obtain ⟨l1, e1⟩ := List.getElem?_eq_some_iff.1 hx
  obtain ⟨l2, e2⟩ := List.getElem?_eq_some_iff.1 hy
  have h2 := List.pairwise_iff_getElem.1 h1 j (j + 1) l1 l2 (by omega)
  rw [e1, e2] at h2
  exact h2
theorem OnR.found (h : OnR M S F t d) {X : List Xg} (hs : X.map stripX = (exL S).map stripX) {x : Xg} (hx : x ∈ X) : ∃ (k : Nat) (f : Xg), F[k]? = some f ∧ sameL [x] [f] = true := by
  have h1 : stripX x ∈ X.map stripX := List.mem_map_of_mem hx
  rw [hs] at h1
  obtain ⟨y, hy, e⟩ := List.mem_map.1 h1
  unfold exL exN at hy
  obtain ⟨p, _, hp⟩ := List.mem_filterMap.1 hy
  obtain ⟨f, hf, e2⟩ := h.eqs _ _ hp
  obtain ⟨k, hk, e3⟩ := List.getElem_of_mem hf
  refine ⟨k, f, by rw [List.getElem?_eq_getElem hk, e3], sameL_yes ?_⟩
  show [stripX x] = [stripX f]
  rw [e2, e]
end
/-! ### In memory -/
/-- The first ones, in a row of their own: their counts lie where they came from. -/
structure FiSt (w0 w : World) (v : Value) (m : Nat) (F : List Xg) : Prop where
  own : w.ownsRow w0.heap.size 38 6 v m (flat encXg F)
  len : F.length = m
  xs : ∀ x ∈ F, XI w0 x
section
variable {w0 w w' : World} {v v' : Value} {m g mb : Nat} {F : List Xg} {S : Gt}
theorem FiSt.start (w0 w : World) : FiSt w0 w (.slice none 0 0) 0 [] := ⟨World.ownsRow_nil _ _ _ _, rfl, fun x hx => by cases hx⟩
theorem FiSt.later (h : FiSt w0 w v m F) (hb : Below w.heap.size w w') : FiSt w0 w' v m F := ⟨own_stays h.own fun j _ hl => hb.block j hl, h.len, h.xs⟩
theorem FiSt.act (h : FiSt w0 w v m F) (hg : GtB w g mb S) (hc : Chg (fun k => k = g ∨ k = mb) w w') : FiSt w0 w' v m F :=
  ⟨own_stays h.own fun j hj hl => by
    obtain ⟨_, cur, ht⟩ := own_typ15 h.own j hj.symm
    exact hg.other hc ht (by decide), h.len, h.xs⟩
theorem FiSt.app (h : FiSt w0 w v m F) {x : Xg} (hx : XI w0 x) (ho : w'.ownsRow w0.heap.size 38 6 v' (m + 1) (flat encXg (F ++ [x]))) : FiSt w0 w' v' (m + 1) (F ++ [x]) :=
  ⟨ho, by rw [List.length_append, h.len]; rfl, fun z hz => by
    rcases List.mem_append.1 hz with hz | hz
    · exact h.xs z hz
    · rw [List.mem_singleton.1 hz]; exact hx⟩
/-- The row grows: the attempt stays. -/
theorem GtB.row (h : GtB w g mb S) (hf : FiSt w0 w v m F) (hg : w.grownBy w' v.ownBlock) : GtB w' g mb S := by
  have hk : ∀ (j : Nat) (cur : Array Value) (t : TypeId), w.heap[j]? = some (.cells cur t (0, 0)) → t ≠ 38 → w'.heap[j]? = w.heap[j]? := fun j cur t hj ht =>
    hg.block j (Array.getElem?_eq_some_iff.1 hj).1 fun e => by
      obtain ⟨_, cur', hc⟩ := own_typ15 hf.own j e
      have := hj.symm.trans hc
      injection this with e1
      injection e1 with _ e2 _
      exact ht e2
  refine ⟨(hk g _ _ h.blk.is (by decide)).trans h.blk, h.map.kept (hg.block mb h.map.lt fun e => by
      obtain ⟨_, cur', hc⟩ := own_typ15 hf.own mb e
      obtain ⟨es, c, hm⟩ := h.map.is
      have := hm.symm.trans hc
      injection this with e1
      cases e1), fun k x hx => (h.xs k x hx).kept fun ad e => ?_, h.ok⟩
  obtain ⟨cur, hc⟩ := (h.xs k x hx).typ ad e
  exact hk _ _ _ hc (by decide)
theorem GtN.row (h : GtN w0 w g mb S) (hf : FiSt w0 w v m F) (hg : w.grownBy w' v.ownBlock) : GtN w0 w' g mb S :=
  ⟨h.at_.row hf hg, h.g0, h.m0, h.bel.grown hg h.bel.size fun j e => own_behind hf.own j e⟩
theorem AcB.row {b : Nat} {a : GA} (h : AcB w b a) (hf : FiSt w0 w v m F) (hg : w.grownBy w' v.ownBlock) : AcB w' b a :=
  h.kept (hg.block b (Own.lt h) fun e => by
    obtain ⟨_, cur', hc⟩ := own_typ15 hf.own b e
    have := h.own.is.symm.trans hc
    injection this with e1
    injection e1 with _ e2 _
    exact absurd e2 (by decide))
theorem AcB.act {b : Nat} {a : GA} (h : AcB w b a) (hg : GtB w g mb S) (hc : Chg (fun k => k = g ∨ k = mb) w w') : AcB w' b a := h.kept (hg.other hc h.own.is (by decide))
theorem own_cell16 {base : Nat} (ho : w.ownsRow base 38 6 v m (flat encXg F)) (hl : F.length = m) {k : Nat} {f : Xg} (hk : F[k]? = some f) : ∃ b c, v = .slice (some ⟨b, 0, none⟩) m c ∧ m ≤ c ∧ c ≤ maxLen ∧ w.rangeAt b (k * 6) (encXg f) ∧ b < w.heap.size := by
  have hlt := (List.getElem?_eq_some_iff.1 hk).1
  rcases own_cases ho with ⟨_, e⟩ | ⟨b, c, rfl, h1, h2⟩
  · omega
  · obtain ⟨b', o', e, hr⟩ := (own_lst' encXg_length hl ho).src (by omega)
    injection e with e
    injection e with e1 e2
    subst e1 e2
    refine ⟨b, c, rfl, h1, h2, fun j u hj => ?_, ?_⟩
    · have := hr k f hk j u hj
      rw [Nat.zero_add] at this
      exact this
    · obtain ⟨_, cur, hc⟩ := own_typ15 ho b rfl
      exact (Array.getElem?_eq_some_iff.1 hc).1
theorem FiSt.cell (h : FiSt w0 w v m F) {k : Nat} {f : Xg} (hk : F[k]? = some f) : ∃ b c, v = .slice (some ⟨b, 0, none⟩) m c ∧ m ≤ c ∧ c ≤ maxLen ∧ w.rangeAt b (k * 6) (encXg f) ∧ b < w.heap.size := own_cell16 h.own h.len hk
end
/-- One of a row, as a row. -/
theorem run_slice1 (W : World) (b n c k : Nat) (hk : k < c) :
    (Instr.slice 31 (.slice (some ⟨b, 0, none⟩) n c) (some (.int .i64 (k : Int))) (some (.int .i64 ((k : Int) + 1))) none).run Tryd.prog W = .ok (.slice (some ⟨b, k * 6, none⟩) 1 (c - k)) W := by
  have ht : Tryd.prog.underlying 31 = some (.slice 38) := Tryd.underlying31
  have ht' : Tryd.prog.underlying 31 = some (.slice (Tryd.prog.elem 31)) := by simp [Program.elem, ht]
  have he : Tryd.prog.elem 31 = 38 := by simp [Program.elem, ht]
  have hz : ∀ w, (Go.sizeOf 38).run Tryd.prog w = .ok 6 w := by intro w; kernel_rfl
  rw [run_slice_lh W 31 _ _ _ ht' .i64 .i64 _ _ (by omega) (by omega) (by omega), he, hz]
  have hne : ¬ c = k := by omega
  have h1 : ((k : Int) + 1).toNat - k = 1 := by omega
  by_cases h0 : k = 0
  · subst h0
    simp [Result.andThen, sliced, Addr.add, hne]
  · simp [Result.andThen, sliced, Addr.add, hne, h0, h1]
    omega
theorem lst_one {w : World} {b k : Nat} {x : Xg} (h : w.rangeAt b (k * 6) (encXg x)) : Lst encXg 6 w (some ⟨b, k * 6, none⟩) 1 [x] := by
  refine ⟨rfl, fun _ => ⟨b, k * 6, rfl, fun i y hy c v hv => ?_⟩⟩
  match i with
  | 0 =>
    injection hy with hy
    subst hy
    rw [Nat.zero_mul, Nat.add_zero]
    exact h c v hv
  | i + 1 => cases hy
end Go.Proofs.YtmaiphgmnammgaaDoor
