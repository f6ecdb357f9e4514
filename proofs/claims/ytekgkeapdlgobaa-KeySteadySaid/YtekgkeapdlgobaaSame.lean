/- The contracts of the document's Same and All, and of the law's Few. -/
import Derived.Test.YtekgkeapdlgobaaKeyOpen
import Derived.Deep.QuietTactic
import Derived.BigQuiet
set_option linter.unusedVariables false
set_option linter.unusedSimpArgs false
namespace Go.Proofs.Ytekgkeapdlgobaa
open Go.RowKit Go.Sort

/-- Are two messages the same? -/
def sameB (x y : Msg) : Bool := x.f == y.f && x.q == y.q && x.s == y.s && x.v == y.v && x.text.toList == y.text.toList && x.dl == y.dl && x.deps == y.deps
theorem sameB_refl (x : Msg) : sameB x x = true := by unfold sameB; simp

/-- What Same answers. -/
def Told (b : Bool) (w : World) (e : Ending) (w' : World) : Prop := e = .returned (.bool b) ∧ Grw w w'

set_option maxHeartbeats 4000000 in
theorem same_loop (x y : Msg) (w : World) (hx : DepsIn w x) (hy : DepsIn w y) (hdl : x.dl ≤ 1048576) (h1 : x.f = y.f) (h2 : x.q = y.q) (h3 : x.s = y.s) (h4 : x.v = y.v) (h5 : x.text.toList = y.text.toList) (h6 : x.dl = y.dl) :
    Calls Try.prog 25 #[.agg (encM x).toArray, .agg (encM y).toArray] w (Told (x.deps == y.deps) w) := by
  obtain ⟨f, q, s, v, a, dl, dc, deps, text⟩ := x
  obtain ⟨f', q', s', v', a', dl', dc', deps', text'⟩ := y
  simp only at h1 h2 h3 h4 h5 h6 hdl
  subst h1 h2 h3 h4 h6
  simp only [encM]
  have HX := Lib.hid hx
  have HY := Lib.hid hy
  have ht : (text.toList == text'.toList) = true := by rw [h5]; simp
  have ht2 : (text.toList != text'.toList) = false := by rw [h5]; simp
  clear hx hy h5
  have mixed : Try.prog.follows .mixedOrders = true := by kernel_rfl
  go_enter Try.func25, Try.ntmps25
  go_wp2
  generalize hW : ((w.alloc (.cells #[.int .i64 f, .int .u32 q, .int .u64 s, .int .i64 v, .slice a dl dc, .string text] 50)).alloc (.cells #[.int .i64 f, .int .u32 q, .int .u64 s, .int .i64 v, .slice a' dl dc', .string text'] 50)) = W
  have a4 : W.cell? ⟨w.heap.size, 4, none⟩ = some (.slice a dl dc) := by rw [← hW]; simp
  have b4 : W.cell? ⟨w.heap.size + 1, 4, none⟩ = some (.slice a' dl dc') := by rw [← hW]; simp
  have G : Grw w W := by rw [← hW]; exact ((Grw.refl _).alloc _).alloc _
  have HG := Lib.hid G
  clear hW G
  go_loopw [5] (fun si wr => ∃ k n : Nat, k ≤ dl ∧ si = .int .i64 k ∧ wr = W.drewN n ∧ Hid (deps.take k = deps'.take k)) (fun si _ => dl - (intOf si).toNat)
  case atStart => exact ⟨0, 0, Nat.zero_le _, rfl, rfl, Lib.hid rfl⟩
  case round =>
    obtain ⟨k, n, hk, rfl, rfl, HT⟩ := hrel
    have hl1 : deps.length = dl := HX.out.size
    have hl2 : deps'.length = dl := HY.out.size
    by_cases hlt : k < dl
    · obtain ⟨bx, ox, rfl, hrx⟩ := HX.out.src (by show 0 < dl; omega)
      obtain ⟨byy, oy, rfl, hry⟩ := HY.out.src (by show 0 < dl; omega)
      have hk1 : k < deps.length := by omega
      have hk2 : k < deps'.length := by omega
      have e1 : w.cell? ⟨bx, ox + k, none⟩ = some (.int .u32 deps[k]) := by have := hrx k _ (List.getElem?_eq_getElem hk1) 0 _ rfl; simpa using this
      have e2 : w.cell? ⟨byy, oy + k, none⟩ = some (.int .u32 deps'[k]) := by have := hry k _ (List.getElem?_eq_getElem hk2) 0 _ rfl; simpa using this
      have c1 := cell_later HG.out.below e1
      have c2 := cell_later HG.out.below e2
      have HT1 := Lib.hid (show deps.take (k + 1) = deps.take k ++ [deps[k]] from List.take_succ_eq_append_getElem hk1)
      have HT2 := Lib.hid (show deps'.take (k + 1) = deps'.take k ++ [deps'[k]] from List.take_succ_eq_append_getElem hk2)
      have HD : Hid (deps[k] ≠ deps'[k] → (deps == deps') = false) := Lib.hid fun hne => by
        rw [Bool.eq_false_iff]
        intro he
        have := eq_of_beq he
        subst this
        exact hne rfl
      clear e1 e2 hrx hry hl1 hl2
      generalize deps[k] = z at *
      generalize deps'[k] = z' at *
      clear hk1 hk2
      by_cases hz : z = z'
      · subst hz
        go_wp2
        go_quiet (fail)
        go_wp2
        go_roundw
        case rel => exact ⟨k + 1, _, by omega, by go_num, rfl, Lib.hid (by rw [HT1.out, HT2.out, HT.out])⟩
        case measure => simp [intOf]; omega
      · have HF := Lib.hid (HD.out hz)
        have hq : (z == z') = false := by simpa using hz
        have hq2 : (z != z') = true := by simpa using hz
        clear hz
        go_wp2
        go_quiet (fail)
        go_wp2
        go_ret
        exact ⟨by rw [HF.out]; rfl, (HG.out.drewN _).drewN _⟩
    · have HE : Hid ((deps == deps') = true) := Lib.hid (by
        have := HT.out
        rw [List.take_of_length_le (by omega), List.take_of_length_le (by omega)] at this
        rw [this]; simp)
      clear hl1 hl2
      go_wp2
      go_ret
      exact ⟨by rw [HE.out]; rfl, HG.out.drewN _⟩

set_option maxHeartbeats 4000000 in
theorem same_any (x y : Msg) (w : World) (hx : DepsIn w x) (hy : DepsIn w y) (hdl : x.dl ≤ 1048576) :
    Calls Try.prog 25 #[.agg (encM x).toArray, .agg (encM y).toArray] w (Told (sameB x y) w) := by
  by_cases h1 : x.f = y.f
  · by_cases h2 : x.q = y.q
    · by_cases h3 : x.s = y.s
      · by_cases h4 : x.v = y.v
        · by_cases h5 : x.text.toList = y.text.toList
          · by_cases h6 : x.dl = y.dl
            · have : sameB x y = (x.deps == y.deps) := by unfold sameB; rw [h1, h2, h3, h4, h5, h6]; simp
              rw [this]
              exact same_loop x y w hx hy hdl h1 h2 h3 h4 h5 h6
            · have hr : sameB x y = false := by unfold sameB; simp [h6]
              rw [hr]
              clear hr hx hy hdl
              obtain ⟨f, q, s, v, a, dl, dc, deps, text⟩ := x
              obtain ⟨f', q', s', v', a', dl', dc', deps', text'⟩ := y
              simp only at h1 h2 h3 h4 h5 h6
              subst h1 h2 h3 h4
              simp only [encM]
              have ht : (text.toList == text'.toList) = true := by rw [h5]; simp
              have ht2 : (text.toList != text'.toList) = false := by rw [h5]; simp
              have hd : ((dl : Int) == (dl' : Int)) = false := by simp; omega
              have hd2 : ((dl : Int) != (dl' : Int)) = true := by simp; omega
              clear h5 h6
              go_enter Try.func25, Try.ntmps25
              go_wp2
              go_ret
              exact ⟨rfl, ((Grw.refl _).alloc _).alloc _⟩
          · have hr : sameB x y = false := by unfold sameB; simp [h5]
            rw [hr]
            clear hr hx hy hdl
            obtain ⟨f, q, s, v, a, dl, dc, deps, text⟩ := x
            obtain ⟨f', q', s', v', a', dl', dc', deps', text'⟩ := y
            simp only at h1 h2 h3 h4 h5
            subst h1 h2 h3 h4
            simp only [encM]
            have ht : (text.toList == text'.toList) = false := by simpa using h5
            have ht2 : (text.toList != text'.toList) = true := by simpa using h5
            clear h5
            go_enter Try.func25, Try.ntmps25
            go_wp2
            go_ret
            exact ⟨rfl, ((Grw.refl _).alloc _).alloc _⟩
        · have hr : sameB x y = false := by unfold sameB; simp [h4]
          rw [hr]
          clear hr hx hy hdl
          obtain ⟨f, q, s, v, a, dl, dc, deps, text⟩ := x
          obtain ⟨f', q', s', v', a', dl', dc', deps', text'⟩ := y
          simp only at h1 h2 h3 h4
          subst h1 h2 h3
          simp only [encM]
          have ht : (v == v') = false := by simpa using h4
          have ht2 : (v != v') = true := by simpa using h4
          clear h4
          go_enter Try.func25, Try.ntmps25
          go_wp2
          go_ret
          exact ⟨rfl, ((Grw.refl _).alloc _).alloc _⟩
      · have hr : sameB x y = false := by unfold sameB; simp [h3]
        rw [hr]
        clear hr hx hy hdl
        obtain ⟨f, q, s, v, a, dl, dc, deps, text⟩ := x
        obtain ⟨f', q', s', v', a', dl', dc', deps', text'⟩ := y
        simp only at h1 h2 h3
        subst h1 h2
        simp only [encM]
        have ht : (s == s') = false := by simpa using h3
        have ht2 : (s != s') = true := by simpa using h3
        clear h3
        go_enter Try.func25, Try.ntmps25
        go_wp2
        go_ret
        exact ⟨rfl, ((Grw.refl _).alloc _).alloc _⟩
    · have hr : sameB x y = false := by unfold sameB; simp [h2]
      rw [hr]
      clear hr hx hy hdl
      obtain ⟨f, q, s, v, a, dl, dc, deps, text⟩ := x
      obtain ⟨f', q', s', v', a', dl', dc', deps', text'⟩ := y
      simp only at h1 h2
      subst h1
      simp only [encM]
      have ht : (q == q') = false := by simpa using h2
      have ht2 : (q != q') = true := by simpa using h2
      clear h2
      go_enter Try.func25, Try.ntmps25
      go_wp2
      go_ret
      exact ⟨rfl, ((Grw.refl _).alloc _).alloc _⟩
  · have hr : sameB x y = false := by unfold sameB; simp [h1]
    rw [hr]
    clear hr hx hy hdl
    obtain ⟨f, q, s, v, a, dl, dc, deps, text⟩ := x
    obtain ⟨f', q', s', v', a', dl', dc', deps', text'⟩ := y
    simp only at h1
    simp only [encM]
    have ht : (f == f') = false := by simpa using h1
    have ht2 : (f != f') = true := by simpa using h1
    clear h1
    go_enter Try.func25, Try.ntmps25
    go_wp2
    go_ret
    exact ⟨rfl, ((Grw.refl _).alloc _).alloc _⟩

/-- Element k of a slice of messages: its cells, in every world behind. -/
theorem Lst.at_ {w : World} {ao : Option Addr} {len k : Nat} {l : List Msg} (h : Lst encM 6 w ao len l) (hk : k < len) : ∃ b o x, ao = some ⟨b, o, none⟩ ∧ l[k]? = some x ∧ b < w.heap.size ∧
    (∀ c v, (encM x)[c]? = some v → w.cell? ⟨b, o + k * 6 + c, none⟩ = some v) := by
  obtain ⟨b, o, e, hr⟩ := h.src (by omega)
  have hkl : k < l.length := by rw [h.size]; exact hk
  exact ⟨b, o, l[k], e, List.getElem?_eq_getElem hkl, World.block_lt_of_cell? _ _ (hr k _ (List.getElem?_eq_getElem hkl) 0 _ rfl), hr k _ (List.getElem?_eq_getElem hkl)⟩

set_option maxHeartbeats 4000000 in
/-- What All answers of one list and itself. -/
theorem all_same (ao bo : Option Addr) (len ac bc : Nat) (l : List Msg) (w : World) (ha : Lst encM 6 w ao len l) (hb : Lst encM 6 w bo len l) (hd : ∀ m ∈ l, DepsIn w m) (hdl : ∀ m ∈ l, m.dl ≤ 1048576) (hl : len ≤ 1048576) :
    Calls Try.prog 21 #[.slice ao len ac, .slice bo len bc] w fun e w' => e = .returned (.bool true) ∧ Below w.heap.size w w' := by
  have HA := Lib.hid ha
  have HB := Lib.hid hb
  have HD := Lib.hid hd
  have HDL := Lib.hid hdl
  have mixed : Try.prog.follows .mixedOrders = true := by kernel_rfl
  clear ha hb hd hdl
  go_enter Try.func21, Try.ntmps21
  go_wp2
  go_loopw [5] (fun si wr => ∃ k : Nat, k ≤ len ∧ si = .int .i64 k ∧ Below w.heap.size w wr) (fun si _ => len - (intOf si).toNat)
  case atStart => exact ⟨0, Nat.zero_le _, rfl, Below.refl _ _⟩
  case round =>
    obtain ⟨k, hk, rfl, hB⟩ := hrel
    by_cases hlt : k < len
    · obtain ⟨b1, o1, x, rfl, hx, hb1, h1⟩ := HA.out.at_ hlt
      obtain ⟨b2, o2, y, rfl, hy, hb2, h2⟩ := HB.out.at_ hlt
      have hxy : x = y := by rw [hx] at hy; injection hy
      subst hxy
      have hxm := List.mem_of_getElem? hx
      have hdx : DepsIn wr x := (HD.out x hxm).below hB
      have hs : ∀ n os, Calls Try.prog 25 #[.agg (encM x).toArray, .agg (encM x).toArray] (grow (wr.drewN n) os) fun e w' => e = .returned (.bool true) ∧ ∃ q os', w' = grow ((grow (wr.drewN n) os).drewN q) os' := fun n os => by
        have hd2 : DepsIn (grow (wr.drewN n) os) x := hdx.below (Grw.below ⟨n, os, rfl⟩)
        have := same_any x x _ hd2 hd2 (HDL.out x hxm)
        rw [sameB_refl] at this
        exact this
      have hbw := hB.size
      have c1 : ∀ c v, (encM x)[c]? = some v → ∀ n os, (grow (wr.drewN n) os).cell? ⟨b1, o1 + k * 6 + c, none⟩ = some v := fun c v hv => cell_grown (by show b1 < wr.heap.size; omega) (cell_later hB (h1 c v hv))
      have c2 : ∀ c v, (encM x)[c]? = some v → ∀ n os, (grow (wr.drewN n) os).cell? ⟨b2, o2 + k * 6 + c, none⟩ = some v := fun c v hv => cell_grown (by show b2 < wr.heap.size; omega) (cell_later hB (h2 c v hv))
      have HBB := Lib.hid hB
      clear h1 h2 hx hy hdx hbw hB hxm
      obtain ⟨f, q, s, v, a, dl, dc, deps, text⟩ := x
      simp only [encM] at hs
      have a0 := c1 0 _ rfl
      have a1 := c1 1 _ rfl
      have a2 := c1 2 _ rfl
      have a3 := c1 3 _ rfl
      have a4 := c1 4 _ rfl
      have a5 := c1 5 _ rfl
      have b0 := c2 0 _ rfl
      have b1 := c2 1 _ rfl
      have b2 := c2 2 _ rfl
      have b3 := c2 3 _ rfl
      have b4 := c2 4 _ rfl
      have b5 := c2 5 _ rfl
      simp only [Nat.add_zero] at a0 b0
      clear c1 c2
      go_wp2_with fail
      go_quiet_grown ((go_at_call 25; exact Calls.grown_of (hs _ _)))
      go_wp2_with fail
      go_roundw
      case rel => exact ⟨k + 1, by omega, by go_num, HBB.out.trans ((Grw.below ⟨nq, osq, rfl⟩).mono HBB.out.size)⟩
      case measure => simp [intOf]; omega
    · go_wp2
      go_ret
      exact ⟨rfl, hB⟩
end Go.Proofs.Ytekgkeapdlgobaa
