/- The library's insertion sort, by the library's own contract: what it leaves is sorted, and what has one key stands as it stood. -/
import Derived.Test.YtafenlacacghoaaSwapRange
set_option linter.unusedVariables false
set_option linter.unusedSimpArgs false
namespace Go.Proofs.Ytafenlacacghoaa
open Go.Shelf Go.RowKit Go.Lib Go.Sort

/-- The numbers of the insertion sort's body in this program. -/
def insRen : Go.Shelf.Ren := ⟨fun | 20 => 49 | n => n, fun | 0 => 0 | 3 => 3 | 4 => 4 | 22 => 31 | 24 => 37 | 25 => 80 | n => n, fun n => n⟩
theorem insLays : SlLaysF0.n20 Try.prog insRen := {
  mixed := by kernel_rfl
  f20 := ⟨Try.f49.name, by decide +kernel, by kernel_rfl⟩
  t0 := Try.underlying0
  a0 := Try.isAgg0
  z0 := Try.sizeOf0
  v0 := Try.zeroValue0
  t3 := Try.underlying3
  a3 := Try.isAgg3
  z3 := Try.sizeOf3
  v3 := Try.zeroValue3
  t4 := Try.underlying4
  a4 := Try.isAgg4
  z4 := Try.sizeOf4
  v4 := Try.zeroValue4
  t22 := Try.underlying31
  a22 := Try.isAgg31
  z22 := Try.sizeOf31
  v22 := Try.zeroValue31
  t25 := Try.underlying80
  a25 := Try.isAgg80
  z25 := Try.sizeOf80
  v25 := Try.zeroValue80 }

section
variable {α : Type} [Inhabited α] {key : α → K} {lt : α → α → Bool}
/-- An exchange of two neighbours, the later one less: those of each key stand as they stood. -/
theorem fil_swp (hlt : ∀ x y, lt x y = (key x).less (key y)) (d : Array α) (j : Nat) (hj : j + 1 < d.size) (h : lt d[j + 1]! d[j]! = true) : Fil key d.toList (swp d (j + 1) j).toList := by
  obtain ⟨l⟩ := d
  have hj' : j + 1 < l.length := by simpa using hj
  have e : l = l.take j ++ l[j] :: ([] ++ l[j + 1] :: l.drop (j + 2)) := by
    conv => lhs; rw [← List.take_append_drop j l, List.drop_eq_getElem_cons (by omega), List.drop_eq_getElem_cons (by omega)]
    rfl
  have h0 : (⟨l⟩ : Array α)[j]! = l[j] := by rw [getElem!_pos _ j (by simp; omega)]; rfl
  have h1 : (⟨l⟩ : Array α)[j + 1]! = l[j + 1] := by rw [getElem!_pos _ (j + 1) (by simpa using hj)]; rfl
  rw [h0, h1, hlt] at h
  rw [swp_comm _ _ _ hj (by simp; omega)]
  have hs := swp_list (l.take j) [] (l.drop (j + 2)) l[j] l[j + 1] j (j + 1) (by rw [List.length_take]; omega) (by rw [List.length_take]; simp; omega)
  have e2 : (⟨l⟩ : Array α) = (l.take j ++ l[j] :: ([] ++ l[j + 1] :: l.drop (j + 2))).toArray := by rw [← e]
  rw [e2, hs]
  have ht : Fil key ([l[j]] ++ [l[j + 1]]) ([l[j + 1]] ++ [l[j]]) := Fil.turn fun x hx y hy he => by
    rw [List.mem_singleton.1 hx, List.mem_singleton.1 hy] at he
    rw [he, K.less_irrefl] at h
    cases h
  have := ((Fil.refl (l.take j)).app ht).app (Fil.refl (l.drop (j + 2)))
  simpa using this
theorem fil_inner (hlt : ∀ x y, lt x y = (key x).less (key y)) (a : Nat) : ∀ (j : Nat) (d : Array α), j < d.size → Fil key d.toList (insInner lt a j d).toList
  | 0, d, _ => by rw [insInner]; exact Fil.refl _
  | j + 1, d, hj => by
    rw [insInner]
    by_cases hc : (j + 1 > a && lt d[j + 1]! d[j]!) = true
    · rw [if_pos hc]
      rw [Bool.and_eq_true] at hc
      exact (fil_swp hlt d j hj hc.2).trans (fil_inner hlt a j _ (by rw [size_swp]; omega))
    · rw [if_neg hc]; exact Fil.refl _
theorem size_inner (a : Nat) : ∀ (j : Nat) (d : Array α), (insInner lt a j d).size = d.size
  | 0, d => by rw [insInner]
  | j + 1, d => by
    rw [insInner]
    split
    · rw [size_inner a j, size_swp]
    · rfl
theorem fil_outer (hlt : ∀ x y, lt x y = (key x).less (key y)) (a b : Nat) : ∀ (n i : Nat) (d : Array α), b - i ≤ n → b ≤ d.size → Fil key d.toList (insOuter lt a b i d).toList := by
  intro n
  induction n with
  | zero => intro i d hn _; rw [insOuter, if_neg (by omega)]; exact Fil.refl _
  | succ n ih =>
    intro i d hn hb
    rw [insOuter]
    by_cases h : i < b
    · rw [if_pos h]
      exact (fil_inner hlt a i d (by omega)).trans (ih (i + 1) _ (by omega) (by rw [size_inner]; exact hb))
    · rw [if_neg h]; exact Fil.refl _

omit [Inhabited α] in
theorem swo_key (hlt : ∀ x y, lt x y = (key x).less (key y)) : SWO lt where
  irrefl x := by rw [hlt]; exact K.less_irrefl _
  trans x y z h1 h2 := by rw [hlt] at *; exact K.less_trans h1 h2
  ntrans x y z h1 h2 := by rw [hlt] at *; exact K.le_trans h2 h1

/-- The insertion sort of a part: that part sorted, all else as it was. -/
theorem ins_list (hlt : ∀ x y, lt x y = (key x).less (key y)) (X S Z : List α) (a b : Nat) (hX : X.length = a) (hS : a + S.length = b) :
    ∃ M, IsSrt key S M ∧ insertionSort lt (X ++ (S ++ Z)).toArray a b = (X ++ (M ++ Z)).toArray := by
  obtain ⟨d, hd⟩ : ∃ d, d = (X ++ (S ++ Z)).toArray := ⟨_, rfl⟩
  have hsz : d.size = a + (S.length + Z.length) := by rw [hd, List.size_toArray, List.length_append, List.length_append, hX]
  obtain ⟨⟨h1, h2, _⟩, h3⟩ := insertionSort_holds (lt := lt) (swo_key hlt) d a b (by omega) (by omega)
  have h4 : Fil key d.toList (insertionSort lt d a b).toList := fil_outer hlt a b _ (a + 1) d (Nat.le_refl _) (by omega)
  rw [← hd]
  obtain ⟨l, hl⟩ : ∃ l, (insertionSort lt d a b).toList = l := ⟨_, rfl⟩
  have hll : l.length = a + (S.length + Z.length) := by rw [← hl, Array.length_toList, h1, hsz]
  have hget : ∀ i (h : i < l.length), (insertionSort lt d a b)[i]! = l[i] := fun i h => by
    have hi : i < (insertionSort lt d a b).size := by rw [h1, hsz]; omega
    rw [getElem!_pos _ i hi]
    subst hl
    rfl
  have hdg : ∀ i (h : i < (X ++ (S ++ Z)).length), d[i]! = (X ++ (S ++ Z))[i] := fun i h => by
    rw [hd, getElem!_pos _ i (by simpa using h)]
    rfl
  have hfull : (X ++ (S ++ Z)).length = a + (S.length + Z.length) := by rw [List.length_append, List.length_append, hX]
  have eX : l.take a = X := by
    refine List.ext_getElem (by rw [List.length_take]; omega) fun i hi1 hi2 => ?_
    rw [List.getElem_take, ← hget i (by omega), h2 i (.inl (by omega)), hdg i (by omega), List.getElem_append_left (by omega)]
  have eZ : l.drop b = Z := by
    refine List.ext_getElem (by rw [List.length_drop]; omega) fun i hi1 hi2 => ?_
    rw [List.getElem_drop, ← hget (b + i) (by rw [List.length_drop] at hi1; omega), h2 (b + i) (.inr (by omega)), hdg (b + i) (by omega), List.getElem_append_right (by omega), List.getElem_append_right (by omega)]
    congr 1
    omega
  have el : l = X ++ ((l.drop a).take (b - a) ++ Z) := by
    conv => lhs; rw [← List.take_append_drop a l, eX]
    congr 1
    conv => lhs; rw [← List.take_append_drop (b - a) (l.drop a), List.drop_drop, show a + (b - a) = b by omega, eZ]
  refine ⟨(l.drop a).take (b - a), ⟨?_, ?_⟩, ?_⟩
  · refine List.pairwise_iff_getElem.2 fun i j hi hj hij => ?_
    rw [List.length_take, List.length_drop] at hi hj
    rw [List.getElem_take, List.getElem_take, List.getElem_drop, List.getElem_drop, ← hlt, ← hget (a + i) (by omega), ← hget (a + j) (by omega)]
    exact h3 (a + i) (a + j) (by omega) (by omega) (by omega)
  · intro c
    have := h4 c
    rw [hl, hd, el] at this
    simp only [List.filter_append] at this
    exact List.append_cancel_right (List.append_cancel_left this)
  · rw [← el, ← hl]
end

theorem hcfM (x y : Mg) : kcmp x.key y.key < 0 ↔ x.key.less y.key = true := kcmp_neg _ _
theorem egM (args : Array Value) (w : World) : (callFunc 45 args).run Try.prog w = .ok (.enter 45 args) w := enters_of Try.func45 (by kernel_rfl) rfl args w

theorem ins_any (blk off len cap a b : Nat) (d0 : Array Mg) (w0 w : World) (X S Z : List Mg) (R : RowK encG 6 w0 blk off d0) (hs : d0.size = len) (hS : SWK encG 6 w0 blk off (X ++ (S ++ Z)).toArray w)
    (hL : (X ++ (S ++ Z)).length = len) (hX : X.length = a) (hb : a + S.length = b) (hsz : len < 4611686018427387904) :
    Calls Try.prog 49 #[.slice (some ⟨blk, off, none⟩) len cap, .int .i64 a, .int .i64 b, .func (.func 45) #[] #[]] w fun e w' => e = .returned (.tuple #[]) ∧ ∃ M, IsSrt Mg.key S M ∧ SWK encG 6 w0 blk off (X ++ (M ++ Z)).toArray w' := by
  have hd : (X ++ (S ++ Z)).toArray.size = len := by rw [List.size_toArray]; exact hL
  have hH := hS.holds R.hblk R.hH (by rw [hd, hs])
  have h := AnyQ.insertionSortCmpFunc insLays 6 Try.isAgg37 Try.sizeOf37 encG encG_length encG_one (fun x y => kcmp x.key y.key) 45 #[] blk off cap a b (X ++ (S ++ Z)).toArray w egM
    (cmpLays blk off _ w) hH (hS.lt R.hblk) (by omega) (by rw [hd]; simp only [List.length_append] at hL; omega) (by rw [hd]; exact hsz)
  rw [hd] at h
  refine Calls.mono h fun e w' ⟨he, n, os, hw⟩ => ⟨he, ?_⟩
  obtain ⟨M, hM, hi⟩ := ins_list (key := Mg.key) (lt := ltOf fun x y => kcmp x.key y.key) (fun x y => by
    show decide (kcmp x.key y.key < 0) = _
    cases hq : x.key.less y.key with
    | true => exact decide_eq_true ((kcmp_neg _ _).2 hq)
    | false => exact decide_eq_false fun hc => by rw [(kcmp_neg _ _).1 hc] at hq; cases hq) X S Z a b hX hb
  refine ⟨M, hM, ?_⟩
  rw [hw, hi]
  refine hS.on R.hblk n _ os ?_
  rw [List.size_toArray, List.size_toArray]
  simp only [List.length_append]
  rw [hM.fil.length]
end Go.Proofs.Ytafenlacacghoaa
