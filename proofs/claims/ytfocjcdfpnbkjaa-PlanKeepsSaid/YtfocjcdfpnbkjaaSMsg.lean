/- Messages as values: their cells, their Deps; what Same, All and Few answer. (Copies of elder texts of mine over Flat, under names of their own.) -/
import Derived.Test.YtfocjcdfpnbkjaaFlat
import Derived.Deep.SlicePairs
set_option linter.unusedVariables false
set_option linter.unusedSimpArgs false
namespace Go.Proofs.Ytfocjcdfpnbkjaa
open Go.RowKit Go.Sort

/-- A message: its numbers, its Deps (where they lie, and what they are), its text. -/
structure Mg where
  f : Int
  q : Int
  s : Int
  v : Int
  a : Option Addr
  dl : Nat
  dc : Nat
  deps : List Int
  text : ByteArray
  deriving Inhabited
/-- Its six cells. -/
def encG (m : Mg) : List Value := [.int .i64 m.f, .int .u32 m.q, .int .u64 m.s, .int .i64 m.v, .slice m.a m.dl m.dc, .string m.text]
theorem encG_length (m : Mg) : (encG m).length = 6 := rfl
theorem encG_one (m : Mg) : ∀ v ∈ encG m, v.oneCell' = true := by
  intro v hv
  simp only [encG, List.mem_cons, List.not_mem_nil, or_false] at hv
  rcases hv with rfl | rfl | rfl | rfl | rfl | rfl <;> rfl

/-- A message's Deps lie where it says. -/
def DpIn (w : World) (m : Mg) : Prop := Lst (fun n : Int => [.int .u32 n]) 1 w m.a m.dl m.deps
theorem DpIn.below {w w' : World} {m : Mg} (h : DpIn w m) (hb : Below w.heap.size w w') : DpIn w' m := Lst.below h hb

/-- Are two messages the same? -/
def sameG (x y : Mg) : Bool := x.f == y.f && x.q == y.q && x.s == y.s && x.v == y.v && x.text.toList == y.text.toList && x.dl == y.dl && x.deps == y.deps
theorem sameG_refl (x : Mg) : sameG x x = true := by unfold sameG; simp

/-- What Same answers. -/
def ToldG (b : Bool) (w : World) (e : Ending) (w' : World) : Prop := e = .returned (.bool b) ∧ Grw w w'

set_option maxHeartbeats 4000000 in
theorem sameG_loop (x y : Mg) (w : World) (hx : DpIn w x) (hy : DpIn w y) (hdl : x.dl ≤ 1048576) (h1 : x.f = y.f) (h2 : x.q = y.q) (h3 : x.s = y.s) (h4 : x.v = y.v) (h5 : x.text.toList = y.text.toList) (h6 : x.dl = y.dl) :
    Calls Try.prog 69 #[.agg (encG x).toArray, .agg (encG y).toArray] w (ToldG (x.deps == y.deps) w) := by
  obtain ⟨f, q, s, v, a, dl, dc, deps, text⟩ := x
  obtain ⟨f', q', s', v', a', dl', dc', deps', text'⟩ := y
  simp only at h1 h2 h3 h4 h5 h6 hdl
  subst h1 h2 h3 h4 h6
  simp only [encG]
  have HX := Lib.hid hx
  have HY := Lib.hid hy
  have ht : (text.toList == text'.toList) = true := by rw [h5]; simp
  have ht2 : (text.toList != text'.toList) = false := by rw [h5]; simp
  clear hx hy h5
  have mixed : Try.prog.follows .mixedOrders = true := by kernel_rfl
  go_enter Try.func69, Try.ntmps69
  go_wp2
  generalize hW : ((w.alloc (.cells #[.int .i64 f, .int .u32 q, .int .u64 s, .int .i64 v, .slice a dl dc, .string text] 47)).alloc (.cells #[.int .i64 f, .int .u32 q, .int .u64 s, .int .i64 v, .slice a' dl dc', .string text'] 47)) = W
  have a4 : W.cell? ⟨w.heap.size, 4, none⟩ = some (.slice a dl dc) := by rw [← hW]; simp
  have b4 : W.cell? ⟨w.heap.size + 1, 4, none⟩ = some (.slice a' dl dc') := by rw [← hW]; simp
  have G : Grw w W := by rw [← hW]; exact ((Grw.refl _).alloc _).alloc _
  have HG := Lib.hid G
  clear hW G
  go_loopw [5] (fun si wr => ∃ k n : Nat, k ≤ dl ∧ si = .int .i64 k ∧ wr = W.drewN n ∧ Hid (deps.take k = deps'.take k)) (fun si _ => dl - (intOf si).toNat)
  case atStart => exact ⟨0, 0, Nat.zero_le _, rfl, rfl, Lib.hid rfl⟩
  case round =>
    obtain ⟨k, n, hk, rfl, rfl, HT⟩ := hrel
    have hl1 : deps.length = dl := HX.out.size
    have hl2 : deps'.length = dl := HY.out.size
    by_cases hlt : k < dl
    · obtain ⟨bx, ox, rfl, hrx⟩ := HX.out.src (by show 0 < dl; omega)
      obtain ⟨byy, oy, rfl, hry⟩ := HY.out.src (by show 0 < dl; omega)
      have hk1 : k < deps.length := by omega
      have hk2 : k < deps'.length := by omega
      have e1 : w.cell? ⟨bx, ox + k, none⟩ = some (.int .u32 deps[k]) := by have := hrx k _ (List.getElem?_eq_getElem hk1) 0 _ rfl; simpa using this
      have e2 : w.cell? ⟨byy, oy + k, none⟩ = some (.int .u32 deps'[k]) := by have := hry k _ (List.getElem?_eq_getElem hk2) 0 _ rfl; simpa using this
      have c1 := cell_later HG.out.below e1
      have c2 := cell_later HG.out.below e2
      have HT1 := Lib.hid (show deps.take (k + 1) = deps.take k ++ [deps[k]] from List.take_succ_eq_append_getElem hk1)
      have HT2 := Lib.hid (show deps'.take (k + 1) = deps'.take k ++ [deps'[k]] from List.take_succ_eq_append_getElem hk2)
      have HD : Hid (deps[k] ≠ deps'[k] → (deps == deps') = false) := Lib.hid fun hne => by
        rw [Bool.eq_false_iff]
        intro he
        have := eq_of_beq he
        subst this
        exact hne rfl
      clear e1 e2 hrx hry hl1 hl2
      generalize deps[k] = z at *
      generalize deps'[k] = z' at *
      clear hk1 hk2
      by_cases hz : z = z'
      · subst hz
        go_wp2
        go_quiet (fail)
        go_wp2
        go_roundw
        case rel => exact ⟨k + 1, _, by omega, by go_num, rfl, Lib.hid (by rw [HT1.out, HT2.out, HT.out])⟩
        case measure => simp [intOf]; omega
      · have HF := Lib.hid (HD.out hz)
        have hq : (z == z') = false := by simpa using hz
        have hq2 : (z != z') = true := by simpa using hz
        clear hz
        go_wp2
        go_quiet (fail)
        go_wp2
        go_ret
        exact ⟨by rw [HF.out]; rfl, (HG.out.drewN _).drewN _⟩
    · have HE : Hid ((deps == deps') = true) := Lib.hid (by
        have := HT.out
        rw [List.take_of_length_le (by omega), List.take_of_length_le (by omega)] at this
        rw [this]; simp)
      clear hl1 hl2
      go_wp2
      go_ret
      exact ⟨by rw [HE.out]; rfl, HG.out.drewN _⟩

set_option maxHeartbeats 4000000 in
theorem sameG_any (x y : Mg) (w : World) (hx : DpIn w x) (hy : DpIn w y) (hdl : x.dl ≤ 1048576) :
    Calls Try.prog 69 #[.agg (encG x).toArray, .agg (encG y).toArray] w (ToldG (sameG x y) w) := by
  by_cases h1 : x.f = y.f
  · by_cases h2 : x.q = y.q
    · by_cases h3 : x.s = y.s
      · by_cases h4 : x.v = y.v
        · by_cases h5 : x.text.toList = y.text.toList
          · by_cases h6 : x.dl = y.dl
            · have : sameG x y = (x.deps == y.deps) := by unfold sameG; rw [h1, h2, h3, h4, h5, h6]; simp
              rw [this]
              exact sameG_loop x y w hx hy hdl h1 h2 h3 h4 h5 h6
            · have hr : sameG x y = false := by unfold sameG; simp [h6]
              rw [hr]
              clear hr hx hy hdl
              obtain ⟨f, q, s, v, a, dl, dc, deps, text⟩ := x
              obtain ⟨f', q', s', v', a', dl', dc', deps', text'⟩ := y
              simp only at h1 h2 h3 h4 h5 h6
              subst h1 h2 h3 h4
              simp only [encG]
              have ht : (text.toList == text'.toList) = true := by rw [h5]; simp
              have ht2 : (text.toList != text'.toList) = false := by rw [h5]; simp
              have hd : ((dl : Int) == (dl' : Int)) = false := by simp; omega
              have hd2 : ((dl : Int) != (dl' : Int)) = true := by simp; omega
              clear h5 h6
              go_enter Try.func69, Try.ntmps69
              go_wp2
              go_ret
              exact ⟨rfl, ((Grw.refl _).alloc _).alloc _⟩
          · have hr : sameG x y = false := by unfold sameG; simp [h5]
            rw [hr]
            clear hr hx hy hdl
            obtain ⟨f, q, s, v, a, dl, dc, deps, text⟩ := x
            obtain ⟨f', q', s', v', a', dl', dc', deps', text'⟩ := y
            simp only at h1 h2 h3 h4 h5
            subst h1 h2 h3 h4
            simp only [encG]
            have ht : (text.toList == text'.toList) = false := by simpa using h5
            have ht2 : (text.toList != text'.toList) = true := by simpa using h5
            clear h5
            go_enter Try.func69, Try.ntmps69
            go_wp2
            go_ret
            exact ⟨rfl, ((Grw.refl _).alloc _).alloc _⟩
        · have hr : sameG x y = false := by unfold sameG; simp [h4]
          rw [hr]
          clear hr hx hy hdl
          obtain ⟨f, q, s, v, a, dl, dc, deps, text⟩ := x
          obtain ⟨f', q', s', v', a', dl', dc', deps', text'⟩ := y
          simp only at h1 h2 h3 h4
          subst h1 h2 h3
          simp only [encG]
          have ht : (v == v') = false := by simpa using h4
          have ht2 : (v != v') = true := by simpa using h4
          clear h4
          go_enter Try.func69, Try.ntmps69
          go_wp2
          go_ret
          exact ⟨rfl, ((Grw.refl _).alloc _).alloc _⟩
      · have hr : sameG x y = false := by unfold sameG; simp [h3]
        rw [hr]
        clear hr hx hy hdl
        obtain ⟨f, q, s, v, a, dl, dc, deps, text⟩ := x
        obtain ⟨f', q', s', v', a', dl', dc', deps', text'⟩ := y
        simp only at h1 h2 h3
        subst h1 h2
        simp only [encG]
        have ht : (s == s') = false := by simpa using h3
        have ht2 : (s != s') = true := by simpa using h3
        clear h3
        go_enter Try.func69, Try.ntmps69
        go_wp2
        go_ret
        exact ⟨rfl, ((Grw.refl _).alloc _).alloc _⟩
    · have hr : sameG x y = false := by unfold sameG; simp [h2]
      rw [hr]
      clear hr hx hy hdl
      obtain ⟨f, q, s, v, a, dl, dc, deps, text⟩ := x
      obtain ⟨f', q', s', v', a', dl', dc', deps', text'⟩ := y
      simp only at h1 h2
      subst h1
      simp only [encG]
      have ht : (q == q') = false := by simpa using h2
      have ht2 : (q != q') = true := by simpa using h2
      clear h2
      go_enter Try.func69, Try.ntmps69
      go_wp2
      go_ret
      exact ⟨rfl, ((Grw.refl _).alloc _).alloc _⟩
  · have hr : sameG x y = false := by unfold sameG; simp [h1]
    rw [hr]
    clear hr hx hy hdl
    obtain ⟨f, q, s, v, a, dl, dc, deps, text⟩ := x
    obtain ⟨f', q', s', v', a', dl', dc', deps', text'⟩ := y
    simp only at h1
    simp only [encG]
    have ht : (f == f') = false := by simpa using h1
    have ht2 : (f != f') = true := by simpa using h1
    clear h1
    go_enter Try.func69, Try.ntmps69
    go_wp2
    go_ret
    exact ⟨rfl, ((Grw.refl _).alloc _).alloc _⟩

/-- Element k of a slice of messages: its cells, in every world behind. -/
theorem Lst.atG {w : World} {ao : Option Addr} {len k : Nat} {l : List Mg} (h : Lst encG 6 w ao len l) (hk : k < len) : ∃ b o x, ao = some ⟨b, o, none⟩ ∧ l[k]? = some x ∧ b < w.heap.size ∧
    (∀ c v, (encG x)[c]? = some v → w.cell? ⟨b, o + k * 6 + c, none⟩ = some v) := by
  obtain ⟨b, o, e, hr⟩ := h.src (by omega)
  have hkl : k < l.length := by rw [h.size]; exact hk
  exact ⟨b, o, l[k], e, List.getElem?_eq_getElem hkl, World.block_lt_of_cell? _ _ (hr k _ (List.getElem?_eq_getElem hkl) 0 _ rfl), hr k _ (List.getElem?_eq_getElem hkl)⟩

theorem below_drewG {B : Nat} {a w : World} (h : Below B a w) (n : Nat) : Below B a (w.drewN n) := ⟨h.os, h.tape, h.output, h.size, h.block⟩

/-- What Few answers: if yes, the messages are at most 300, and their Deps few. -/
def FewSaidG (w : World) (len : Nat) (l : List Mg) (e : Ending) (w' : World) : Prop :=
  (e = .returned (.bool false) ∨ e = .returned (.bool true) ∧ len ≤ 300 ∧ ∀ m ∈ l, m.dl ≤ 20000) ∧ Below w.heap.size w w'

set_option maxHeartbeats 4000000 in
set_option maxRecDepth 100000 in
theorem fewG_any (ao : Option Addr) (len cap : Nat) (l : List Mg) (w : World) (h : Lst encG 6 w ao len l) :
    Calls Try.prog 54 #[.slice ao len cap] w (FewSaidG w len l) := by
  have HA := Lib.hid h
  have mixed : Try.prog.follows .mixedOrders = true := by kernel_rfl
  clear h
  go_enter Try.func54, Try.ntmps54
  go_wp2
  go_loopw [3, 4] (fun sn si wr => ∃ (k : Nat) (n : Int), k ≤ len ∧ k ≤ 300 ∧ 0 ≤ n ∧ n ≤ 20000 ∧ si = .int .i64 k ∧ sn = .int .i64 n ∧ Below w.heap.size w wr ∧ Hid (∀ m ∈ l.take k, m.dl ≤ 20000)) (fun _ si _ => 301 - (intOf si).toNat)
  case atStart => exact ⟨0, 0, Nat.zero_le _, by omega, by omega, by omega, rfl, rfl, Below.refl _ _, Lib.hid fun m hm => by simp at hm⟩
  case round =>
    obtain ⟨k, n, hk, hk3, hn0, hn1, rfl, rfl, hB, HT⟩ := hrel
    by_cases hlt : k < len
    · obtain ⟨b1, o1, x, rfl, hx, hb1, h1⟩ := HA.out.atG hlt
      have hkl := (List.getElem?_eq_some_iff.1 hx).1
      have HTK := Lib.hid (show l.take (k + 1) = l.take k ++ [x] by rw [List.take_succ_eq_append_getElem hkl, (List.getElem?_eq_some_iff.1 hx).2])
      have a4 : wr.cell? ⟨b1, o1 + k * 6 + 4, none⟩ = some (.slice x.a x.dl x.dc) := cell_later hB (h1 4 _ rfl)
      have a5 : wr.cell? ⟨b1, o1 + k * 6 + 5, none⟩ = some (.string x.text) := cell_later hB (h1 5 _ rfl)
      have HBB := Lib.hid hB
      clear h1 hx hkl hB
      generalize x.a = xa at *
      generalize x.dc = xc at *
      generalize x.text = xt at *
      obtain ⟨dl, hdl⟩ : ∃ dl, dl = x.dl := ⟨_, rfl⟩
      rw [← hdl] at a4
      have HDL := Lib.hid hdl
      clear hdl
      go_wp2
      go_quiet (fail)
      obtain ⟨mt, hmt⟩ : ∃ mt, mt = (if (20000 : Int) < (xt.size : Int) then 20000 else (xt.size : Int)) := ⟨_, rfl⟩
      obtain ⟨md, hmd⟩ : ∃ md, md = (if (20000 : Int) < (dl : Int) then 20000 else (dl : Int)) := ⟨_, rfl⟩
      have t1 : 0 ≤ mt ∧ mt ≤ 20000 := by rw [hmt]; split <;> omega
      have t2 : 0 ≤ md ∧ md ≤ 20000 ∧ (md < 20000 → md = dl) := by rw [hmd]; split <;> omega
      rw [← hmt, ← hmd]
      obtain ⟨n2, hn2⟩ : ∃ n2, n2 = n + 1 + mt + md := ⟨_, rfl⟩
      have m1 : 0 ≤ n2 := by omega
      have m2 : n2 ≤ 60001 := by omega
      have m3 : n2 ≤ 20000 → dl ≤ 20000 := by omega
      rw [← hn2]
      clear hn2 hmt hmd t1 t2 a4 a5
      by_cases hk2 : k < 300
      · have hkz : ¬ (300 : Int) ≤ (k : Int) := by omega
        by_cases hn2 : n2 ≤ 20000
        · have hdl := m3 hn2
          have HD2 : Hid (x.dl ≤ 20000) := Lib.hid (by rw [← HDL.out]; exact hdl)
          have hnz : ¬ 20000 < n2 := by omega
          clear m3
          go_wp2
          go_roundw
          case rel =>
            refine ⟨k + 1, n2, by omega, by omega, m1, hn2, by go_num, rfl, below_drewG HBB.out _, Lib.hid fun m hm => ?_⟩
            rw [HTK.out] at hm
            rcases List.mem_append.1 hm with e | e
            · exact HT.out m e
            · rw [List.mem_singleton.1 e]; exact HD2.out
          case measure => simp [intOf]; omega
        · have hnz : 20000 < n2 := by omega
          clear m3 hn2
          go_wp2
          go_ret
          exact ⟨.inl rfl, below_drewG HBB.out _⟩
      · have hkz : (300 : Int) ≤ (k : Int) := by omega
        clear m3 hk2
        go_wp2
        go_ret
        exact ⟨.inl rfl, below_drewG HBB.out _⟩
    · go_wp2
      go_ret
      exact ⟨.inr ⟨rfl, by omega, fun m hm => HT.out m (by rw [List.take_of_length_le (by rw [HA.out.size]; omega)]; exact hm)⟩, hB⟩
end Go.Proofs.Ytfocjcdfpnbkjaa
