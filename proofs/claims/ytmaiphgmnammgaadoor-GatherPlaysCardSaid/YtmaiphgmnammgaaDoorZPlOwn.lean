/- Layer 15: what PlanOwn builds: plain facts, rows of numbers, what stands in memory. -/
import Derived.Test.YtmaiphgmnammgaaDoorZPlMore
import Derived.Test.YtmaiphgmnammgaaDoorZPlKeep
set_option linter.unusedVariables false
set_option maxRecDepth 100000
set_option linter.unusedSimpArgs false
namespace Go.Proofs.YtmaiphgmnammgaaDoor
open Go.RowKit Go.Sort Go.Shelf Go.Maps

/-! ### Plain -/
/-- Exchanges of processes that all delivered D; messages of what each sent behind. -/
structure OwP (D : List Int) (i : Nat) (L : List Xg) (R : List Mg) : Prop where
  len : L.length = i
  x : ∀ (j : Nat) (x : Xg), L[j]? = some x → x.w = (j : Int) ∧ x.oe = 0 ∧ x.op = 0 ∧ x.k = ⟨1, 0⟩ ∧ ∀ q, D.getD q 0 ≤ x.of q
  m : ∀ m ∈ R, m.deps = D ∧ 0 < m.q ∧ m.q < 100 ∧ ∃ x ∈ L, x.w = m.f ∧ m.q ≤ x.of m.f.toNat
theorem OwP.start (D : List Int) : OwP D 0 [] [] := ⟨rfl, (fun j x h => by cases h), (fun m h => by cases h)⟩
section
variable {D : List Int} {i : Nat} {L : List Xg} {R : List Mg}
theorem OwP.addX (h : OwP D i L R) (x : Xg) (h1 : x.w = (i : Int)) (h2 : x.oe = 0) (h3 : x.op = 0) (h4 : x.k = ⟨1, 0⟩) (h5 : ∀ q, D.getD q 0 ≤ x.of q) : OwP D (i + 1) (L ++ [x]) R := by
  refine ⟨by rw [List.length_append, h.len]; rfl, fun j y hy => ?_, fun m hm => ?_⟩
  · by_cases hj : j < L.length
    · rw [List.getElem?_append_left hj] at hy; exact h.x j y hy
    · have hl := (List.getElem?_eq_some_iff.1 hy).1
      rw [List.length_append, List.length_singleton] at hl
      obtain rfl : j = L.length := by omega
      rw [List.getElem?_append_right (Nat.le_refl _), Nat.sub_self] at hy
      have e : x = y := by simpa using hy
      subst e
      exact ⟨by rw [h1, h.len], h2, h3, h4, h5⟩
  · obtain ⟨a, b, c, z, hz, d⟩ := h.m m hm
    exact ⟨a, b, c, z, by simp [hz], d⟩
theorem OwP.addM (h : OwP D i L R) (m : Mg) (h1 : m.deps = D) (h2 : 0 < m.q) (h3 : m.q < 100) (h4 : ∃ x ∈ L, x.w = m.f ∧ m.q ≤ x.of m.f.toNat) : OwP D i L (R ++ [m]) :=
  ⟨h.len, h.x, fun y hy => by
    rcases List.mem_append.1 hy with hy | hy
    · exact h.m y hy
    · rw [List.mem_singleton.1 hy]; exact ⟨h1, h2, h3, h4⟩⟩
theorem OwP.who (h : OwP D i L R) {x : Xg} (hx : x ∈ L) : 0 ≤ x.w ∧ x.w < (i : Int) := by
  obtain ⟨j, hj, rfl⟩ := List.getElem_of_mem hx
  have := (h.x j _ (List.getElem?_eq_getElem hj)).1
  rw [h.len] at hj
  omega
theorem OwP.apart (h : OwP D i L R) (hi : i ≤ 64) : Apart L := by
  refine ⟨fun x hx => by have := h.who hx; omega, ?_⟩
  have e : L.map Xg.w = (List.range L.length).map (fun j : Nat => (j : Int)) := by
    apply List.ext_getElem?
    intro j
    rw [List.getElem?_map, List.getElem?_map]
    by_cases hj : j < L.length
    · rw [List.getElem?_range hj, List.getElem?_eq_getElem hj]
      show some _ = some _
      rw [(h.x j _ (List.getElem?_eq_getElem hj)).1]
    · rw [List.getElem?_eq_none (by omega), List.getElem?_eq_none (by rw [List.length_range]; omega)]; rfl
  rw [e]
  unfold List.Nodup
  rw [List.pairwise_map]
  refine List.Pairwise.imp ?_ List.nodup_range
  intro a b hab hc
  exact hab (by omega)
theorem OwP.plan (h : OwP D i L R) (hi : i ≤ 64) (me : Nat) (hm : me < i) : ∃ y, HasPlan L (me : Int) y := by
  have hl : me < L.length := by rw [h.len]; exact hm
  exact ⟨L[me], List.getElem_mem hl, (h.x me _ (List.getElem?_eq_getElem hl)).1, h.apart hi⟩
theorem OwP.comp (h : OwP D i L R) {y : Xg} (hy : y ∈ L) : compL y L = L := by
  unfold compL
  refine List.filter_eq_self.2 fun x hx => ?_
  obtain ⟨j, hj, rfl⟩ := List.getElem_of_mem hx
  obtain ⟨k, hk, rfl⟩ := List.getElem_of_mem hy
  have h1 := h.x j _ (List.getElem?_eq_getElem hj)
  have h2 := h.x k _ (List.getElem?_eq_getElem hk)
  exact sameOld_iff.2 ⟨by rw [h1.2.1, h2.2.1], by rw [h1.2.2.1, h2.2.2.1]⟩
theorem OwP.bound (h : OwP D i L R) (hi : 0 < i) : lastK (L.map Xg.k) = ⟨1, 0⟩ := by
  have hne : L.map Xg.k ≠ [] := by
    intro e
    have := congrArg List.length e
    rw [List.length_map, h.len] at this
    simp at this; omega
  have hm := lastK_mem _ hne
  obtain ⟨x, hx, e⟩ := List.mem_map.1 hm
  obtain ⟨j, hj, rfl⟩ := List.getElem_of_mem hx
  rw [← e]
  exact (h.x j _ (List.getElem?_eq_getElem hj)).2.2.2.1
theorem OwP.none {w : World} (h : OwP D i L R) (hi : 0 < i) (hi2 : i ≤ 64) (hD : D.length ≤ 64) (hL : ∀ x ∈ L, XgIn w x) {m : Mg} (hg : Given (whL L) R m) : False := by
  induction hg with
  | deps m hm hc q d hd hb =>
    obtain ⟨h1, _⟩ := h.m m hm
    rw [h1] at hd
    have hq := (List.getElem?_eq_some_iff.1 hd).1
    rcases hb with ⟨h3, _⟩ | ⟨h3, h4⟩
    · omega
    · have hl : 0 < L.length := by rw [h.len]; exact hi
      have hx := (h.x 0 _ (List.getElem?_eq_getElem hl)).2.2.2.2 q
      have ht := (whL_is (w := w) L (fun x hx => ⟨hL x hx, (h.apart hi2).in_ x hx⟩) q h3).top _ (List.getElem_mem hl)
      rw [List.getD_eq_getElem?_getD, hd] at hx
      simp only [Option.getD_some] at hx
      omega
  | same m x hm hc hgx h1 h2 ih => exact ih
  | lean m x hm hc hgx hle ih => exact ih
theorem OwP.all {w : World} (h : OwP D i L R) (hi : 0 < i) (hi2 : i ≤ 64) (hD : D.length ≤ 64) (hL : ∀ x ∈ L, XgIn w x) : keepL (whL L) R = R := by
  unfold keepL
  refine List.filter_eq_self.2 fun m hm => ?_
  obtain ⟨_, h2, _, x, hx, e, hq⟩ := h.m m hm
  have hw := h.who hx
  have ht := (whL_is (w := w) L (fun x hx => ⟨hL x hx, (h.apart hi2).in_ x hx⟩) m.f.toNat (by omega)).top x hx
  exact kept_iff.2 ⟨⟨by omega, by omega, by omega, by omega⟩, fun hg => h.none hi hi2 hD hL hg⟩
end
/-! ### Numbers -/
/-- What is left of a number by five. -/
theorem mod5 (z : Int) (h0 : 0 ≤ z) (h1 : z < 4294967296) : ∃ d : Nat, z.tmod 5 = (d : Int) ∧ d < 5 := by
  refine ⟨(z.tmod 5).toNat, ?_, ?_⟩
  · rw [Int.tmod_eq_emod_of_nonneg h0]; omega
  · rw [Int.tmod_eq_emod_of_nonneg h0]; omega
def f5 (z : Int) : Int := z.tmod 5
/-- The first k of them are taken by five. -/
def modK (l : List Int) (k : Nat) : List Int := (l.take k).map f5 ++ l.drop k
theorem modK_zero (l : List Int) : modK l 0 = l := by unfold modK; simp
theorem modK_all (l : List Int) (k : Nat) (h : l.length = k) : modK l k = l.map f5 := by unfold modK; rw [List.take_of_length_le (by omega), List.drop_eq_nil_of_le (by omega), List.append_nil]
theorem modK_length (l : List Int) (k : Nat) : (modK l k).length = l.length := by unfold modK; simp; omega
theorem modK_at (l : List Int) (k : Nat) (z : Int) (h : l[k]? = some z) : (modK l k)[k]? = some z := by
  have hk := (List.getElem?_eq_some_iff.1 h).1
  unfold modK
  rw [List.getElem?_append_right (by simp; omega), List.length_map, List.length_take, Nat.min_eq_left (by omega), Nat.sub_self, List.getElem?_drop]
  simpa using h
theorem modK_set (l : List Int) (k : Nat) (z : Int) (h : l[k]? = some z) : (modK l k).set k (f5 z) = modK l (k + 1) := by
  have hk := (List.getElem?_eq_some_iff.1 h).1
  unfold modK
  rw [List.set_append_right _ _ (by simp; omega), List.length_map, List.length_take, Nat.min_eq_left (by omega), Nat.sub_self, List.take_add_one, h, List.drop_eq_getElem_cons hk, List.set_cons_zero]
  simp
def encU (n : Int) : List Value := [.int .u32 n]
theorem encU_length (n : Int) : (encU n).length = 1 := rfl
theorem flatU_one {l : List Int} : ∀ u ∈ flat encU l, u.oneCell' = true := by
  intro u hu
  unfold flat at hu
  obtain ⟨c, hc, huc⟩ := List.mem_flatten.1 hu
  obtain ⟨m, _, rfl⟩ := List.mem_map.1 hc
  simp only [encU, List.mem_singleton] at huc
  subst huc
  rfl
theorem flatU_set (l : List Int) (k : Nat) (z : Int) : (flat encU l).set k (.int .u32 z) = flat encU (l.set k z) := by
  have e : ∀ l : List Int, flat encU l = l.map (Value.int .u32) := by
    intro l
    induction l with
    | nil => rfl
    | cons a l ih => rw [flat_cons, ih]; rfl
  rw [e, e, List.map_set]
theorem infoU : (Tryd.prog.info? 52).map (fun i => (i.zero, i.size, i.bytes)) = some (some (.int .u32 0), 1, 4) := by kernel_rfl
/-- 'append' of numbers onto a row of the call's own. -/
theorem append_ow (w : World) {ops : Array Oper} {rest : List Oper} {o : Oper} {a : Act} {Q : Exit → Act → World → Prop} (hgd : o.guard = none) (s x : Operand)
    (ho : o.op = .call { callee := .builtin .append, args := #[s, x], argTypes := #[34, 34] })
    (base : Nat) (v : Value) (n : Nat) (l : List Int) (hs : a.eval s = v) (hown : w.ownsRow base 52 1 v n (flat encU l))
    (ao : Option Addr) (m c : Nat) (r : List Int) (hx : a.eval x = .slice ao m c) (hnil : ao = none → c = 0) (hl : Lst (fun n : Int => [.int .u32 n]) 1 w ao m r) (hn : n + m ≤ 200000) (hbase : base ≤ w.heap.size)
    (h : ∀ v' w', w'.ownsRow base 52 1 v' (n + m) (flat encU (l ++ r)) → w.grownBy w' v.ownBlock → wpList Tryd.prog ops Q rest (a.put o.dst v') w') : wpList Tryd.prog ops Q (o :: rest) a w := by
  obtain ⟨i0, hi, hz0, hz1, hz2⟩ := info_parts infoU
  have ht := Tryd.underlying34
  refine append_own_any w hgd s x 34 ho base 52 i0 (.int .u32 0) 1 4 ht hi hz0 hz1 hz2 rfl (by decide) v n (flat encU l) hs hown ao m c (flat encU r) hx (fun e => ⟨?_, hnil e⟩) (by rw [flat_length encU 1 encU_length, hl.size]) (fun ad ea j u hj => ?_) flatU_one (by unfold maxLen; omega) (by omega) hbase (fun v' w' h1 h2 => h v' w' (by rw [flat_append]; exact h1) h2)
  · rcases Nat.eq_zero_or_pos m with e1 | e1
    · exact e1
    · obtain ⟨b, o', e', _⟩ := hl.src e1; rw [e] at e'; cases e'
  · have hj' : j < r.length * 1 := by have := (List.getElem?_eq_some_iff.1 hj).1; rwa [flat_length encU 1 encU_length] at this
    obtain ⟨b, o', e, R⟩ := hl.src (by rw [← hl.size]; omega)
    rw [ea] at e
    injection e with e
    subst e
    rw [add_lit10]
    exact RowAt.flat (enc := encU) encU_length R j u hj
theorem append_xg (w : World) {ops : Array Oper} {rest : List Oper} {o : Oper} {a : Act} {Q : Exit → Act → World → Prop} (hgd : o.guard = none) (s x : Operand)
    (ho : o.op = .call { callee := .builtin .append, args := #[s, x], argTypes := #[31, 31] })
    (base : Nat) (v : Value) (n : Nat) (xs : List Value) (hs : a.eval s = v) (hown : w.ownsRow base 38 6 v n xs)
    (ao : Option Addr) (m c : Nat) (l : List Xg) (hx : a.eval x = .slice ao m c) (hnil : ao = none → c = 0) (hl : Lst encXg 6 w ao m l) (hn : n + m ≤ 200000) (hbase : base ≤ w.heap.size)
    (h : ∀ v' w', w'.ownsRow base 38 6 v' (n + m) (xs ++ flat encXg l) → w.grownBy w' v.ownBlock → wpList Tryd.prog ops Q rest (a.put o.dst v') w') : wpList Tryd.prog ops Q (o :: rest) a w :=
  wpList_plain hgd fun K' hK' => wp_append_xg w s x ho base v n xs hs hown ao m c l hx hnil hl hn hbase fun v' w' h1 h2 => hK' _ _ (h v' w' h1 h2)
theorem DpT.as {w : World} {F : Nat → Prop} {x : Mg} (h : DpT w F x) (f q s v : Int) (t : ByteArray) : DpT w F ⟨f, q, s, v, x.a, x.dl, x.dc, x.deps, t⟩ := ⟨h.deps, h.few, h.typ⟩
/-- What an exchange of PlanOwn's tells: one count is more. -/
theorem own_of {D : List Int} {i : Nat} {z y : Nat} (h : D[i]? = some (z : Int)) (hy : z ≤ y) (q : Nat) : D.getD q 0 ≤ (D.set i (y : Int)).getD q 0 := by
  rw [List.getD_eq_getElem?_getD, List.getD_eq_getElem?_getD, List.getElem?_set]
  have hi := (List.getElem?_eq_some_iff.1 h).1
  by_cases e : i = q
  · subst e
    rw [if_pos rfl, if_pos hi, h]
    show (z : Int) ≤ (y : Int)
    omega
  · rw [if_neg e]; exact Int.le_refl _
theorem own_of_i {D : List Int} {i : Nat} {z y : Nat} (h : D[i]? = some (z : Int)) : (D.set i (y : Int)).getD i 0 = (y : Int) := by
  have hi := (List.getElem?_eq_some_iff.1 h).1
  rw [List.getD_eq_getElem?_getD, List.getElem?_set, if_pos rfl, if_pos hi]; rfl
theorem lst_u1 (w : World) (z : Int) : Lst (fun n : Int => [.int .u32 n]) 1 (w.alloc (.cells #[.int .u32 z] 52)) (some ⟨w.heap.size, 0, none⟩) 1 [z] := by
  refine ⟨rfl, fun _ => ⟨w.heap.size, 0, rfl, fun i x hx c v hv => ?_⟩⟩
  have hi : i < 1 := (List.getElem?_eq_some_iff.1 hx).1
  obtain rfl : i = 0 := by omega
  cases hx
  have hc : c < 1 := (List.getElem?_eq_some_iff.1 hv).1
  obtain rfl : c = 0 := by omega
  cases hv
  exact (Own.new w 52 #[.int .u32 z]).at_ 0 _ rfl
/-- A row of numbers that is being made: W is the world ahead of it. -/
structure CtM (W wr : World) (v : Value) (k : Nat) (l : List Int) : Prop where
  own : wr.ownsRow W.heap.size 52 1 v k (flat encU l)
  len : l.length = k
  bel : Below W.heap.size W wr
section
variable {W wr w' : World} {v v' : Value} {k : Nat} {l : List Int}
theorem CtM.later (h : CtM W wr v k l) (hb : Below wr.heap.size wr w') : CtM W w' v k l := ⟨own_stays h.own fun j _ hl => hb.block j hl, h.len, h.bel.trans (hb.mono h.bel.size)⟩
theorem CtM.app (h : CtM W wr v k l) {m : Nat} {r : List Int} (h1 : w'.ownsRow W.heap.size 52 1 v' (k + m) (flat encU (l ++ r))) (h2 : wr.grownBy w' v.ownBlock) (hr : r.length = m) : CtM W w' v' (k + m) (l ++ r) :=
  ⟨h1, by rw [List.length_append, h.len, hr], h.bel.grown h2 h.bel.size fun j e => own_behind h.own j e⟩
theorem CtM.set {g c : Nat} (h : CtM W wr (.slice (some ⟨g, 0, none⟩) k c) k l) (j : Nat) (z : Int) : CtM W (wr.setCell ⟨g, j, none⟩ (.int .u32 z)) (.slice (some ⟨g, 0, none⟩) k c) k (l.set j z) := by
  obtain ⟨h1, h2⟩ := h.own.stored j (.int .u32 z)
  rw [flatU_set] at h1
  exact ⟨h1, by rw [List.length_set, h.len], h.bel.grown h2 h.bel.size fun i e => own_behind h.own i (by rw [← e]; rfl)⟩
theorem CtM.at_ {g c : Nat} (h : CtM W wr (.slice (some ⟨g, 0, none⟩) k c) k l) (j : Nat) (z : Int) (hz : l[j]? = some z) : wr.cell? ⟨g, j, none⟩ = some (.int .u32 z) := by
  have hj : j < k := by rw [← h.len]; exact (List.getElem?_eq_some_iff.1 hz).1
  rw [h.own.cellAt j (by omega)]
  have := flat_at encU 1 encU_length l j z hz 0 (by decide)
  rw [Nat.mul_one, Nat.add_zero] at this
  rw [this]; rfl
theorem CtM.lst {a : Option Addr} {c : Nat} (h : CtM W wr (.slice a k c) k l) : Lst (fun n : Int => [.int .u32 n]) 1 wr a k l := own_lst' (enc := encU) encU_length h.len h.own
theorem CtM.form (h : CtM W wr v k l) (hk : 0 < k) : ∃ g c, v = .slice (some ⟨g, 0, none⟩) k c ∧ k ≤ c ∧ W.heap.size ≤ g ∧ ∃ cur, wr.heap[g]? = some (.cells cur 52 (0, 0)) := by
  rcases h.own.2 with ⟨_, h1⟩ | ⟨g, c, cur, rfl, h2, h3, h4, _⟩
  · omega
  · exact ⟨g, c, rfl, h4, h2, cur, h3⟩
/-- As the Deps of a message: typed. -/
theorem CtM.dp {g c : Nat} (h : CtM W wr (.slice (some ⟨g, 0, none⟩) k c) k l) (hk : k ≤ 1000) (f q s sv : Int) (t : ByteArray) : DpT wr (fun _ => True) ⟨f, q, s, sv, some ⟨g, 0, none⟩, k, c, l, t⟩ :=
  ⟨h.lst, by show k ≤ _; omega, fun ad e => ⟨trivial, by
    injection e with e
    subst e
    obtain ⟨_, cur, hc⟩ := own_typ15 h.own g rfl
    exact ⟨cur, hc⟩⟩⟩
end
/-- An exchange's counts, as if they were a message's Deps. -/
def asM (x : Xg) : Mg := ⟨0, 0, 0, 0, x.a, x.n, x.c, x.cnt, { data := #[] }⟩
section
variable {w wr w' : World} {D : List Int} {i rn : Nat} {vl vr v' : Value} {L : List Xg} {R : List Mg}
theorem dp_ne {x : Mg} {F : Nat → Prop} (h : DpT wr F x) (ad : Addr) (e : x.a = some ad) {b : Nat} {cur : Array Value} {t : TypeId} (hb : wr.heap[b]? = some (.cells cur t (0, 0))) (ht : t ≠ 52) : ad.block ≠ b := by
  rintro rfl
  obtain ⟨_, cur', hc⟩ := h.typ ad e
  have := hc.symm.trans hb
  injection this with e1
  injection e1 with _ e2 _
  exact ht e2.symm
theorem typ_apart {v v2 : Value} {base base2 n n2 k k2 : Nat} {t t2 : TypeId} {xs xs2 : List Value} (h : wr.ownsRow base t k v n xs) (h2 : wr.ownsRow base2 t2 k2 v2 n2 xs2) (ht : t ≠ t2) (j : Nat) (hj : v.ownBlock = some j) : some j ≠ v2.ownBlock := fun e => by
  obtain ⟨_, cur, hc⟩ := own_typ15 h j hj.symm
  obtain ⟨_, cur2, hc2⟩ := own_typ15 h2 j e
  have := hc.symm.trans hc2
  injection this with e1
  injection e1 with _ e2 _
  exact ht e2
end
end Go.Proofs.YtmaiphgmnammgaaDoor
