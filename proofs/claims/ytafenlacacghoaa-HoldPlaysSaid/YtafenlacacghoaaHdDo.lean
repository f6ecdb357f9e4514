/- An act of a script done to a hold; two rows held against each other; Few. -/
import Derived.Test.YtafenlacacghoaaHdOpen
import Derived.Test.YtafenlacacghoaaSAll
set_option linter.unusedVariables false
set_option linter.unusedSimpArgs false
namespace Go.Proofs.Ytafenlacacghoaa
open Go.RowKit Go.Sort

theorem HAt.congrX {w : World} {F : Nat → Prop} {g N : Nat} {lo : Nat → Nat} {sl : Nat → Sl} {X X' : Nat → List Mg} (h : HAt w F g N lo sl X) (he : ∀ p, p < 64 → X' p = X p) : HAt w F g N lo sl X' :=
  ⟨h.own, h.fg, h.lim, fun p hp => by rw [he p hp]; exact h.slot p hp, h.inF, h.apart, fun p hp => by rw [he p hp]; exact h.deps p hp, fun p hp => by rw [he p hp]; exact h.bnd p hp⟩
theorem hs_copy2 {w : World} {F : Nat → Prop} {g N : Nat} {S : Hs} (h : HRep w F g N S) (hN : N ≤ 1000) :
    Calls Try.prog 29 #[.pointer (some ⟨g, 0, none⟩)] w fun e w' => ∃ gc, e = .returned (.pointer (some ⟨gc, 0, none⟩)) ∧ HRep w' (newB w.heap.size w') gc N S ∧ Below w.heap.size w w' := by
  obtain ⟨sl, X, h1, h2⟩ := h.ex
  refine (hcopy h1 hN).mono fun e w' hs => ?_
  obtain ⟨gc, sl2, X2, k1, k2, k3, k4⟩ := hs
  refine ⟨gc, k1, ⟨sl2, fun p => if p < 64 then X2 p else X p, k2.congrX fun p hp => if_pos hp, fun p => ?_⟩, k3⟩
  by_cases hp : p < 64
  · simp only [if_pos hp]; rw [k4 p hp, h2]
  · simp only [if_neg hp]; exact h2 p
theorem Ha.ok.below12 {w w' : World} {a : Ha} (h : a.ok w) (hb : Below w.heap.size w w') : a.ok w' := ⟨h.p0, h.p1, h.u, Lst.below h.d hb, h.q0, h.q1⟩
/-- An act. -/
def stepH (S : Hs) (a : Ha) : Hs := if a.drop then dropS S a.p a.upto else putS S a.m
def runH (l : List Ha) : Hs := l.foldl stepH hs0
theorem runH_next (l : List Ha) (k : Nat) (a : Ha) (h : l[k]? = some a) : runH (l.take (k + 1)) = stepH (runH (l.take k)) a := by
  obtain ⟨hlt, e⟩ := List.getElem?_eq_some_iff.1 h
  unfold runH
  rw [List.take_succ_eq_append_getElem hlt, List.foldl_append, e]
  rfl
/-- A hold that was made since w, and that has none of the blocks of D. -/
structure OwnD (D : Nat → Prop) (w wr : World) (g N : Nat) (S : Hs) : Prop where
  ex : ∃ F, HRep wr F g N S ∧ (∀ k, F k → w.heap.size ≤ k) ∧ ∀ k, D k → ¬ F k
  bel : Below w.heap.size w wr
  dl : ∀ k, D k → k < wr.heap.size
section
variable {D : Nat → Prop} {w wr : World} {g N : Nat} {S : Hs}
theorem OwnD.own (h : OwnD D w wr g N S) : OwnH w wr g N S := by
  obtain ⟨F, h1, h2, _⟩ := h.ex
  exact ⟨⟨F, h1, h2⟩, h.bel⟩
theorem OwnH.free (h : OwnH w wr g N S) : OwnD (fun _ => False) w wr g N S := by
  obtain ⟨F, h1, h2⟩ := h.ex
  exact ⟨⟨F, h1, h2, fun k hk => hk.elim⟩, h.bel, fun k hk => hk.elim⟩
theorem OwnD.later {w' : World} (h : OwnD D w wr g N S) (hb : Below wr.heap.size wr w') : OwnD D w w' g N S := by
  obtain ⟨F, h1, h2, h3⟩ := h.ex
  exact ⟨⟨F, h1.below hb, h2, h3⟩, h.bel.trans (hb.mono h.bel.size), fun k hk => Nat.lt_of_lt_of_le (h.dl k hk) hb.size⟩
theorem OwnD.le {M : Nat} (h : OwnD D w wr g N S) (hm : N ≤ M) : OwnD D w wr g M S := by
  obtain ⟨F, h1, h2, h3⟩ := h.ex
  exact ⟨⟨F, h1.le hm, h2, h3⟩, h.bel, h.dl⟩
/-- What an act leaves. -/
def ActSaid (D : Nat → Prop) (w wr : World) (g N : Nat) (S : Hs) (v : Value) (e : Ending) (w' : World) : Prop := e = .returned v ∧ OwnD D w w' g N S ∧ (∀ k, D k → w'.heap[k]? = wr.heap[k]?) ∧ wr.heap.size ≤ w'.heap.size
theorem od_put (h : OwnD D w wr g N S) (hN : N ≤ 999) (m : Mg) (q0 : 0 ≤ m.q) (q1 : m.q < 4294967296) (hd : DpIn wr m) (hdl : m.dl ≤ 1048576) :
    Calls Try.prog 12 #[.pointer (some ⟨g, 0, none⟩), valG m] wr (ActSaid D w wr g (N + 1) (putS S m) (.int .i64 (putCode S m))) := by
  obtain ⟨F, h1, h2, h3⟩ := h.ex
  refine (hs_put h1 hN m q0 q1 hd hdl).mono fun e w' hs => ?_
  obtain ⟨k1, k2, k3⟩ := hs
  refine ⟨k1, ⟨⟨_, k2, fun k hk => ?_, fun k hk hf => ?_⟩, h.bel.trans (k3.below h.bel.size h2), fun k hk => Nat.lt_of_lt_of_le (h.dl k hk) k3.size⟩, fun k hk => k3.block k (h.dl k hk) (h3 k hk), k3.size⟩
  · rcases hk with hk | hk
    · exact h2 k hk
    · have := h.bel.size; omega
  · rcases hf with hf | hf
    · exact h3 k hk hf
    · have := h.dl k hk; omega
theorem od_drop (h : OwnD D w wr g N S) (hN : N ≤ 1000) (p : Int) (upto : Nat) (hu : upto < 4294967296) :
    Calls Try.prog 10 #[.pointer (some ⟨g, 0, none⟩), .int .i64 p, .int .u32 (upto : Int)] wr (ActSaid D w wr g N (dropS S p upto) (.tuple #[])) := by
  obtain ⟨F, h1, h2, h3⟩ := h.ex
  refine (hs_drop h1 hN p upto hu).mono fun e w' hs => ?_
  obtain ⟨k1, k2, k3⟩ := hs
  exact ⟨k1, ⟨⟨_, k2, h2, h3⟩, h.bel.trans (k3.below h.bel.size h2), fun k hk => Nat.lt_of_lt_of_le (h.dl k hk) k3.size⟩, fun k hk => k3.block k (h.dl k hk) (h3 k hk), k3.size⟩
set_option maxHeartbeats 4000000 in
/-- The law's 'do'. -/
theorem od_do (h : OwnD D w wr g N S) (hN : N ≤ 999) (a : Ha) (ha : a.ok wr) (hdl : a.m.dl ≤ 1048576) :
    Calls Try.prog 28 #[.pointer (some ⟨g, 0, none⟩), .agg (encA a).toArray] wr (ActSaid D w wr g (N + 1) (stepH S a) (.tuple #[])) := by
  obtain ⟨dr, p, upto, ⟨f, q, s, v, da, dl, dc, deps, text⟩⟩ := a
  have LB := ((Grw.refl wr).alloc (.cells #[.bool dr, .int .i64 p, .int .u32 (upto : Int), .int .i64 f, .int .u32 q, .int .u64 s, .int .i64 v, .slice da dl dc, .string text] 39)).below
  have h1 := h.later LB
  have hbl : ∀ k, D k → (wr.alloc (.cells #[.bool dr, .int .i64 p, .int .u32 (upto : Int), .int .i64 f, .int .u32 q, .int .u64 s, .int .i64 v, .slice da dl dc, .string text] 39)).heap[k]? = wr.heap[k]? := fun k hk => LB.block k (h.dl k hk)
  have HBL := Lib.hid (And.intro hbl LB.size)
  have P1 := od_drop h1 (by omega) p upto ha.u
  have P2 := od_put h1 hN ⟨f, q, s, v, da, dl, dc, deps, text⟩ ha.q0 ha.q1 (Lst.below ha.d LB) hdl
  unfold valG at P2
  simp only [encG] at P2
  clear h h1 ha LB hbl hdl
  unfold encA
  simp only [encG]
  cases dr with
  | true =>
    go_enter Try.func28, Try.ntmps28
    go_wp2_with fail
    refine P1.mono ?_
    rintro e w' ⟨rfl, k2, k3⟩
    have HK := Lib.hid (And.intro (k2.le (Nat.le_succ _)) k3)
    clear P1 P2 k2 k3
    go_wp2
    go_end0
    exact ⟨rfl, HK.out.1, fun k hk => (HK.out.2.1 k hk).trans (HBL.out.1 k hk), Nat.le_trans HBL.out.2 HK.out.2.2⟩
  | false =>
    go_enter Try.func28, Try.ntmps28
    go_wp2_with fail
    refine P2.mono ?_
    rintro e w' ⟨rfl, k2, k3⟩
    have HK := Lib.hid (And.intro k2 k3)
    clear P1 P2 k2 k3
    go_wp2
    go_end0
    exact ⟨rfl, HK.out.1, fun k hk => (HK.out.2.1 k hk).trans (HBL.out.1 k hk), Nat.le_trans HBL.out.2 HK.out.2.2⟩
end
/-- Two rows of the same messages. -/
theorem all_rows {w : World} {B C : Nat} {s t : Sl} {X Y : List Mg} (hx : OutR w B s X) (hy : OutR w C t Y) (h : X.map strip = Y.map strip) (hn : s.n ≤ 1048576) :
    Calls Try.prog 22 #[.slice s.a s.n s.c, .slice t.a t.n t.c] w fun e w' => e = .returned (.bool true) ∧ Grw w w' := by
  have hl : X.length = Y.length := by have := congrArg List.length h; simpa using this
  have hs := hx.slot.len
  have ht := hy.slot.len
  have e : t.n = s.n := by omega
  rw [e]
  refine allG_any s.a t.a s.n s.c t.c X Y w hx.slot.lst (by rw [← e]; exact hy.slot.lst) (fun m hm => (hx.deps m hm).deps) (fun m hm => (hy.deps m hm).deps) (fun m hm => (hx.deps m hm).few) (fun i x y h1 h2 => ?_) hn
  refine strip_same ?_
  have e1 : (X.map strip)[i]? = some (strip x) := by rw [List.getElem?_map, h1]; rfl
  have e2 : (Y.map strip)[i]? = some (strip y) := by rw [List.getElem?_map, h2]; rfl
  rw [h, e2] at e1
  injection e1 with e1
  exact e1.symm
/-- Element k of a script: its cells. -/
theorem Lst.atA {w : World} {ao : Option Addr} {len k : Nat} {l : List Ha} (h : Lst encA 9 w ao len l) (hk : k < len) : ∃ b o x, ao = some ⟨b, o, none⟩ ∧ l[k]? = some x ∧ b < w.heap.size ∧
    (∀ c v, (encA x)[c]? = some v → w.cell? ⟨b, o + k * 9 + c, none⟩ = some v) := by
  obtain ⟨b, o, e, hr⟩ := h.src (by omega)
  have hkl : k < l.length := by rw [h.size]; exact hk
  exact ⟨b, o, l[k], e, List.getElem?_eq_getElem hkl, World.block_lt_of_cell? _ _ (hr k _ (List.getElem?_eq_getElem hkl) 0 _ rfl), hr k _ (List.getElem?_eq_getElem hkl)⟩
/-- What the law's Few answers. -/
def FewA (w : World) (len : Nat) (l : List Ha) (e : Ending) (w' : World) : Prop :=
  (e = .returned (.bool false) ∨ e = .returned (.bool true) ∧ len ≤ 200 ∧ ∀ a ∈ l, a.m.dl ≤ 20000) ∧ Below w.heap.size w w'
set_option maxHeartbeats 4000000 in
set_option maxRecDepth 100000 in
theorem hfew (ao : Option Addr) (len cap : Nat) (l : List Ha) (w : World) (hl : Lst encA 9 w ao len l) : Calls Try.prog 8 #[.slice ao len cap] w (FewA w len l) := by
  have HL := Lib.hid hl
  have A0 : Hid (AbSt w w ((l.take 0).map Ha.m) slNil) := Lib.hid ⟨Below.refl _ _, SlotAt.nil w, fun x hx => by simp [slNil] at hx⟩
  clear hl
  go_enter Try.func8, Try.ntmps8
  go_wp2
  go_loopw [3, 4] (fun so si wr => ∃ (k : Nat) (s : Sl), k ≤ len ∧ k ≤ 200 ∧ si = .int .i64 k ∧ so = .slice s.a s.n s.c ∧ Hid (AbSt w wr ((l.take k).map Ha.m) s)) (fun _ si _ => len - (intOf si).toNat)
  case atStart => exact ⟨0, slNil, Nat.zero_le _, by omega, rfl, rfl, A0⟩
  case round =>
    obtain ⟨k, s, hk, hk2, rfl, rfl, HS⟩ := hrel
    by_cases hlt : k < len
    · obtain ⟨b, o, x, rfl, hx, hb, hc⟩ := HL.out.atA hlt
      have hkl := (List.getElem?_eq_some_iff.1 hx).1
      have HT := Lib.hid (show (l.take (k + 1)).map Ha.m = (l.take k).map Ha.m ++ [x.m] by rw [List.take_succ_eq_append_getElem hkl, (List.getElem?_eq_some_iff.1 hx).2, List.map_append]; rfl)
      have hcr : ∀ c v, (encA x)[c]? = some v → wr.cell? ⟨b, o + k * 9 + c, none⟩ = some v := fun c v hv => cell_later HS.out.bel (hc c v hv)
      have c3 := hcr 3 _ rfl
      have c4 := hcr 4 _ rfl
      have c5 := hcr 5 _ rfl
      have c6 := hcr 6 _ rfl
      have c7 := hcr 7 _ rfl
      have c8 := hcr 8 _ rfl
      have hsn : s.n ≤ 200 := by rw [← HS.out.slot.len, List.length_map, List.length_take]; omega
      have HSN := Lib.hid hsn
      clear hcr hc hx hkl hsn
      obtain ⟨dr, p, upto, ⟨f, q, sx, v, da, dl, dc, deps, text⟩⟩ := x
      simp only at c3 c4 c5 c6 c7 c8 HT
      have HL7 := Lib.hid (lst_one (MgB.new wr ⟨f, q, sx, v, da, dl, dc, deps, text⟩))
      have HS7 := Lib.hid (HS.out.later ((Grw.refl wr).alloc (.cells #[.int .i64 f, .int .u32 q, .int .u64 sx, .int .i64 v, .slice da dl dc, .string text] 37)).below)
      clear HS
      by_cases hk3 : k < 200
      · have hkz : ¬ (200 : Int) ≤ (k : Int) := by omega
        go_wp2_with (at_builtin; refine wpList_append_h rfl (.tmp 11) (.tmp 17) rfl s _ rfl HS7.out.slot ⟨wr.heap.size, 0, none⟩ 1 1 [⟨f, q, sx, v, da, dl, dc, deps, text⟩] rfl HL7.out (by decide) (by have := HSN.out; omega) ?_; intro s' w' hs' hn' hg' hl')
        clear hn'
        have HS8 := Lib.hid (HS7.out.more hs' hg' hl')
        clear hs' hg' hl' HS7 HL7
        unfold Sl.v
        go_roundw
        case rel => exact ⟨k + 1, s', by omega, by omega, by go_num, rfl, Lib.hid (by rw [HT.out]; exact HS8.out)⟩
        case measure => simp [intOf]; omega
      · have hkz : (200 : Int) ≤ (k : Int) := by omega
        go_wp2_with (at_builtin; refine wpList_append_h rfl (.tmp 11) (.tmp 17) rfl s _ rfl HS7.out.slot ⟨wr.heap.size, 0, none⟩ 1 1 [⟨f, q, sx, v, da, dl, dc, deps, text⟩] rfl HL7.out (by decide) (by have := HSN.out; omega) ?_; intro s' w' hs' hn' hg' hl')
        clear hn'
        have HS8 := Lib.hid (HS7.out.more hs' hg' hl')
        clear hs' hg' hl' HS7 HL7
        go_ret
        exact ⟨.inl rfl, HS8.out.bel⟩
    · have e1 : l.take k = l := List.take_of_length_le (by rw [HL.out.size]; omega)
      have hS := HS.out
      rw [e1] at hS
      have PF := fewG_any s.a s.n s.c (l.map Ha.m) wr hS.slot.lst
      have HB := Lib.hid hS.bel
      clear hS HS e1
      go_wp2_with fail
      refine PF.mono ?_
      rintro e w2 ⟨h2, B2⟩
      have HB2 := Lib.hid (HB.out.trans (B2.mono HB.out.size))
      clear PF B2
      rcases h2 with rfl | ⟨rfl, hlen, hdl⟩
      · go_wp2
        go_ret
        exact ⟨.inl rfl, HB2.out⟩
      · have HDL := Lib.hid hdl
        clear hdl
        go_wp2
        go_ret
        exact ⟨.inr ⟨rfl, by omega, fun a ha => HDL.out a.m (List.mem_map_of_mem ha)⟩, HB2.out⟩
end Go.Proofs.Ytafenlacacghoaa
