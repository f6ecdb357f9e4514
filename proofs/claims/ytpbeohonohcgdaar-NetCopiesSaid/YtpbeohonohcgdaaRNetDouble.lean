/- Double, Take. -/
import Derived.Test.YtpbeohonohcgdaaRNetSend
import Derived.Deep.DeepCutAuto
set_option linter.unusedVariables false
set_option linter.unusedSimpArgs false
namespace Go.Proofs.YtpbeohonohcgdaaR
open Go.RowKit Go.Sort

theorem NetAt.apart {w : World} {g B : Nat} {N : Nt} {ao : Option Addr} {cap : Nat} (h : NetAt w g B N ao cap) : some g ≠ (Value.slice ao N.rows.length cap).ownBlock := by
  rw [own_block]
  intro a e
  rcases h.spot with ⟨e1, _⟩ | ⟨b, e1, _, _, e2, _⟩
  · rw [e1] at e; cases e
  · rw [e1] at e; cases e; exact fun e3 => e2 e3.symm
set_option maxHeartbeats 1000000 in
theorem ndouble_no {w : World} {g B : Nat} {N : Nt} {ao : Option Addr} {cap : Nat} (h : NetAt w g B N ao cap) (i : Int) (h0 : -9223372036854775808 ≤ i) (h1 : i ≤ 9223372036854775807) (hi : (hasB N.rows.length i && !isFull N.rows.length) = false) :
    Calls Try.prog 26 #[.pointer (some ⟨g, 0, none⟩), .int .i64 i] w fun e w' => e = .returned (.bool false) ∧ w = w' := by
  have M := nhas h i h0 h1
  have F := nfull h
  cases hb : hasB N.rows.length i
  · rw [hb] at M
    clear h hi hb
    go_enter Try.func26, Try.ntmps26
    go_wp2_with (first | (go_at_call 32; refine M.mono ?_; rintro e w' ⟨rfl, rfl⟩) | (go_at_call 33; refine F.mono ?_; rintro e w' ⟨rfl, rfl⟩))
    go_ret
    exact ⟨rfl, rfl⟩
  · have hf : isFull N.rows.length = true := by rw [hb] at hi; simpa using hi
    rw [hb] at M
    rw [hf] at F
    clear h hi hb hf
    go_enter Try.func26, Try.ntmps26
    go_wp2_with (first | (go_at_call 32; refine M.mono ?_; rintro e w' ⟨rfl, rfl⟩) | (go_at_call 33; refine F.mono ?_; rintro e w' ⟨rfl, rfl⟩))
    go_ret
    exact ⟨rfl, rfl⟩
set_option maxHeartbeats 4000000 in
theorem ndouble_yes {w : World} {g B : Nat} {N : Nt} {ao : Option Addr} {cap : Nat} (h : NetAt w g B N ao cap) (k : Nat) (d : Dg) (hk : N.rows[k]? = some d) (hfull : isFull N.rows.length = false) :
    Calls Try.prog 26 #[.pointer (some ⟨g, 0, none⟩), .int .i64 (k : Nat)] w fun e w' => e = .returned (.bool true) ∧ ∃ ao' cap', NetAt w' g B { N with rows := N.rows ++ [d] } ao' cap' ∧ Moved w w' g ao ao' := by
  have hkl := (List.getElem?_eq_some_iff.1 hk).1
  have HB : hasB N.rows.length (k : Int) = true := by unfold hasB; simp; exact hkl
  have M := nhas h (k : Int) (by omega) (by have := h.few; omega)
  rw [HB] at M
  have F := nfull h
  rw [hfull] at F
  obtain ⟨b, rfl, hb1, hb2, hb3, hcap, z0, z1, z2, z3⟩ := h.datum k d hk
  have cb := h.bag
  have fr := h.free 65
  have hgl2 := h.lt
  have hrow := Lib.hid h.row
  have hS := Lib.hid h
  have HD := Lib.hid (h.ok d (List.mem_of_getElem? hk))
  obtain ⟨i0, hi0, hz0, hz1, hz2⟩ := info_parts infoD
  have hne := Lib.hid h.apart
  have hBs : B ≤ w.heap.size := by have := h.base; omega
  have hlt : N.rows.length < 4096 := by unfold isFull at hfull; simpa using hfull
  generalize hn : N.rows.length = n at *
  have hn := Lib.hid hn
  clear h HB hk hfull
  have hZ : Hid (∀ j u, (encD d)[j]? = some u → (w.alloc (.cells #[.int .i64 d.frm, .int .i64 d.to, .string d.data, .bool d.torn] 28)).drew.cell? ((⟨w.heap.size, 0, none⟩ : Addr).add j) = some u) :=
    Lib.hid (World.news_of_block (Own.drew (Own.new w 28 #[.int .i64 d.frm, .int .i64 d.to, .string d.data, .bool d.torn])))
  have hB2 : Hid (B ≤ (w.alloc (.cells #[.int .i64 d.frm, .int .i64 d.to, .string d.data, .bool d.torn] 28)).drew.heap.size) := Lib.hid (by show B ≤ (w.alloc _).heap.size; simp; omega)
  go_enter Try.func26, Try.ntmps26
  go_wp2_with (first | (go_at_call 32; refine M.mono ?_; rintro e w' ⟨rfl, rfl⟩) | (go_at_call 33; refine F.mono ?_; rintro e w' ⟨rfl, rfl⟩))
  clear M F
  go_region_law (refine step_append_lies _ rfl (.tmp 17) (.tmp 25) 43 rfl B 28 i0 zeroD 4 40 Try.underlying43 hi0 hz0 hz1 hz2 rfl (by decide) (.slice (some ⟨b, 0, none⟩) n cap) n (flat encD N.rows) (by simp [Act.eval, Act.put]) (hrow.out.alloc _).drew ⟨w.heap.size, 0, none⟩ 1 1 (encD d) (by simp [Act.eval, Act.put]) rfl hZ.out (encD_one d) (by decide) (by unfold maxLen; omega) (by omega) hB2.out _ rfl ?_; intro b' cap' w1 R1 G1 hat hlt1; (have c1 : w1.cell? ⟨g, 65, none⟩ = some (.slice (some ⟨b, 0, none⟩) n cap) := by rw [G1.cell_far _ (by show g < (w.alloc _).heap.size; simp; omega) hne.out]; exact cell_later ((Grw.refl w).alloc _).drew.below cb); (have f1 : w1.frozen? ⟨g, 65, none⟩ = false := by rw [G1.frozen_far _ (by show g < (w.alloc _).heap.size; simp; omega) hne.out]; exact (hS.out.below ((Grw.refl w).alloc _).drew.below).free 65); (have HR := Lib.hid R1); (have HG := Lib.hid G1); (have HA := Lib.hid hat); clear R1 G1 hat)
  all_goals
    go_wp2
    go_ret
    have hgr := grown_tr (grown_of_below ((Grw.refl w).alloc (.cells #[.int .i64 d.frm, .int .i64 d.to, .string d.data, .bool d.torn] 28)).drew.below _) HG.out
    have hn := hn.out
    subst hn
    obtain ⟨A1, A2⟩ := hS.out.rowed hgr (N.rows ++ [d]) (N.rows.length + 1) (by simp) (some ⟨b', 0, none⟩) cap' (by rw [flat_append, flat_cons, flat_nil, List.append_nil]; exact HR.out) (fun a e => by
      cases e
      rcases HA.out with h1 | h1
      · left
        exact ⟨_, rfl, by injection h1⟩
      · right
        show w.heap.size ≤ b'
        rw [h1]
        show w.heap.size ≤ (w.alloc _).heap.size
        simp) (fun x hx => by
      rcases List.mem_append.1 hx with h1 | h1
      · exact hS.out.ok x h1
      · rw [List.mem_singleton.1 h1]; exact HD.out) (by simp; omega)
    exact ⟨rfl, _, _, A1, A2⟩

/-- A datagram in a variable of the call's own. -/
def putD (w : World) (a b : Int) (s : ByteArray) (c : Bool) : World := (w.alloc (.cells #[.int .i64 0, .int .i64 0, .string { data := #[] }, .bool false] 28)).setRow w.heap.size #[.int .i64 a, .int .i64 b, .string s, .bool c]
theorem putD_at (w : World) (a b : Int) (s : ByteArray) (c : Bool) : DgB (putD w a b s c) w.heap.size a b s c := (DgB.new w 0 0 { data := #[] } false).put a b s c
theorem putD_below (w : World) (a b : Int) (s : ByteArray) (c : Bool) : Go.RowKit.Below w.heap.size w (putD w a b s c) := belowRow ((Below.refl w.heap.size w).alloc (Nat.le_refl _) _) w.heap.size (Nat.le_refl _) _
theorem putD_is (w : World) (a b : Int) (s : ByteArray) (c : Bool) : (w.alloc (.cells #[.int .i64 0, .int .i64 0, .string { data := #[] }, .bool false] 28)).setRow w.heap.size #[.int .i64 a, .int .i64 b, .string s, .bool c] = putD w a b s c := rfl
theorem DgB.lt {w : World} {g : Nat} {a b : Int} {s : ByteArray} {c : Bool} (h : DgB w g a b s c) : g < w.heap.size := h.own.lt
/-- A result's block, empty yet. -/
def newD (w : World) : World := w.alloc (.cells #[.int .i64 0, .int .i64 0, .string { data := #[] }, .bool false] 28)
theorem newD_at (w : World) : DgB (newD w) w.heap.size 0 0 { data := #[] } false := DgB.new w _ _ _ _
theorem newD_below (w : World) : Go.RowKit.Below w.heap.size w (newD w) := (Below.refl w.heap.size w).alloc (Nat.le_refl _) _
theorem newD_is (w : World) : w.alloc (.cells #[.int .i64 0, .int .i64 0, .string { data := #[] }, .bool false] 28) = newD w := rfl

set_option maxHeartbeats 1000000 in
theorem ntake_no {w : World} {g B : Nat} {N : Nt} {ao : Option Addr} {cap : Nat} (h : NetAt w g B N ao cap) (i : Int) (h0 : -9223372036854775808 ≤ i) (h1 : i ≤ 9223372036854775807) (hi : hasB N.rows.length i = false) :
    Calls Try.prog 11 #[.pointer (some ⟨g, 0, none⟩), .int .i64 i] w fun e w' => e = .returned (.tuple #[.agg #[.int .i64 0, .int .i64 0, .string { data := #[] }, .bool false], .bool false]) ∧ Below w.heap.size w w' := by
  have M := nat_no (h.below (newD_below w)) i h0 h1 hi
  have Z0 := newD_at w
  have B0 := newD_below w
  clear h hi
  go_enter Try.func11, Try.ntmps11
  go_upto_region 1 with fail
  rw [newD_is]
  generalize newD w = W at *
  go_upto_region 2 with (first | (go_at_call 20; refine M.mono ?_; rintro e w1 ⟨rfl, L1⟩) | (refine store_dg rfl (.tmp 6) (.tmp 12) rfl w1.heap.size 0 0 { data := #[] } false rfl rfl (DgB.new w1 0 0 { data := #[] } false) ?_))
  rw [putD_is]
  have B1 := (B0.trans (L1.mono B0.size)).trans ((putD_below w1 0 0 { data := #[] } false).mono (Nat.le_trans B0.size L1.size))
  have Z1 := (Z0.below L1 Z0.lt).below (putD_below w1 0 0 { data := #[] } false) (Nat.lt_of_lt_of_le Z0.lt L1.size)
  generalize putD w1 0 0 { data := #[] } false = w2 at *
  clear Z0 B0 M L1
  have HB := Lib.hid (belowRow B1 w.heap.size (Nat.le_refl _) #[.int .i64 0, .int .i64 0, .string { data := #[] }, .bool false])
  clear B1
  go_wp2_with (first | (refine store_dg rfl (.tmp 4) (.tmp 16) rfl w.heap.size 0 0 { data := #[] } false rfl rfl Z1 ?_))
  (try simp only [Exit.inBlock, Exit.then])
  exact bodyPost_ret (results_dg rfl _ _ w.heap.size rfl (Z1.put 0 0 _ _)) rfl ⟨rfl, HB.out⟩

/-- What Take hands out. -/
def takenV (N : Nt) (d : Dg) : Value := if linkedB N d.frm d.to = true then .tuple #[valD d, .bool true] else .tuple #[.agg #[.int .i64 0, .int .i64 0, .string { data := #[] }, .bool false], .bool false]
theorem linked_rows (N : Nt) (R : List Dg) (p q : Int) : linkedB { N with rows := R } p q = linkedB N p q := rfl
theorem Moved.belowRow {w w' : World} {g : Nat} {ao ao' : Option Addr} (m : Moved w w' g ao ao') (r : Nat) (hr : w.heap.size ≤ r) (cs : Array Value) : Moved w (w'.setRow r cs) g ao ao' :=
  ⟨m.os, m.tape, m.output, by rw [size_setRow]; exact m.size, fun k hk hg ha => (setRow_other _ _ _ _ (by omega)).trans (m.block k hk hg ha), m.own⟩
set_option maxHeartbeats 2000000 in
theorem ntake_yes {w : World} {g B : Nat} {N : Nt} {ao : Option Addr} {cap : Nat} (h : NetAt w g B N ao cap) (k : Nat) (d : Dg) (hk : N.rows[k]? = some d) :
    Calls Try.prog 11 #[.pointer (some ⟨g, 0, none⟩), .int .i64 (k : Nat)] w fun e w' => e = .returned (takenV N d) ∧ NetAt w' g B { N with rows := N.rows.eraseIdx k } ao cap ∧ Moved w w' g ao ao := by
  have hkl := (List.getElem?_eq_some_iff.1 hk).1
  have hfew := h.few
  have hd := h.ok d (List.mem_of_getElem? hk)
  have A0 := h.below (newD_below w)
  have M := nat_yes A0 k d hk
  have Z0 := newD_at w
  have B0 := newD_below w
  have hgl := h.lt
  have hsl : ∀ a, ao = some a → a.block < w.heap.size := fun a e => by
    rcases h.spot with ⟨e1, _⟩ | ⟨b, e1, _, e2, _⟩
    · rw [e1] at e; cases e
    · rw [e1] at e; cases e; exact e2
  clear h
  go_enter Try.func11, Try.ntmps11
  go_upto_region 1 with fail
  rw [newD_is]
  generalize newD w = W at *
  go_upto_region 2 with (first | (go_at_call 20; refine M.mono ?_; rintro e w1 ⟨rfl, L1⟩) | (refine store_dg rfl (.tmp 6) (.tmp 12) rfl w1.heap.size d.frm d.to d.data d.torn rfl rfl (DgB.new w1 0 0 { data := #[] } false) ?_))
  rw [putD_is]
  have B1 := (B0.trans (L1.mono B0.size)).trans ((putD_below w1 d.frm d.to d.data d.torn).mono (Nat.le_trans B0.size L1.size))
  have Z1 := (Z0.below L1 Z0.lt).below (putD_below w1 d.frm d.to d.data d.torn) (Nat.lt_of_lt_of_le Z0.lt L1.size)
  have A1 := (A0.below L1).below (putD_below w1 d.frm d.to d.data d.torn)
  have Y1 := putD_at w1 d.frm d.to d.data d.torn
  have s1 := L1.size
  have s0 := Z0.lt
  generalize putD w1 d.frm d.to d.data d.torn = w2 at *
  generalize w1.heap.size = r at *
  clear Z0 B0 M L1 A0
  have hr := Y1.lt
  go_upto_region 5 with (go_at_call 25; refine (ndrop_yes A1 k hkl).mono ?_; rintro e w3 ⟨rfl, A3, M3⟩)
  have keep : ∀ x : Nat, w.heap.size ≤ x → x < w2.heap.size → w3.heap[x]? = w2.heap[x]? := fun x h1 h2 => M3.block x h2 (by omega) (fun a e => by have := hsl a e; omega)
  have Z3 : DgB w3 w.heap.size 0 0 { data := #[] } false := (keep _ (Nat.le_refl _) Z1.lt).trans Z1
  have Y3 : DgB w3 r d.frm d.to d.data d.torn := (keep _ (by omega) hr).trans Y1
  have MM := (Moved.of_below B1 g ao).trans M3
  clear Z1 Y1 B1 A1 M3 keep
  have P0 := Lib.hid (MM.belowRow w.heap.size (Nat.le_refl _) #[.int .i64 0, .int .i64 0, .string { data := #[] }, .bool false])
  have P1 := Lib.hid (MM.belowRow w.heap.size (Nat.le_refl _) #[.int .i64 d.frm, .int .i64 d.to, .string d.data, .bool d.torn])
  have Q := Lib.hid (fun cs => A3.kept (w' := w3.setRow w.heap.size cs) (fun x _ e => setRow_other _ _ _ _ (by
    rcases e with rfl | ⟨a, e1, rfl⟩
    · omega
    · have := hsl a e1; omega)))
  have L := nlinked A3 d.frm d.to hd.f0 hd.f1 hd.t0 hd.t1
  rw [linked_rows] at L
  have z0 := Y3.c0
  have z1 := Y3.c1
  clear MM A3 hd hk hsl
  cases hl : linkedB N d.frm d.to
  · rw [hl] at L
    have HT := Lib.hid (show takenV N d = _ from by unfold takenV; rw [hl, if_neg (by simp)])
    clear hl
    go_wp2_with (first | (go_at_call 13; refine L.mono ?_; rintro e w' ⟨rfl, rfl⟩) | (refine store_dg rfl (.tmp 4) (.tmp 27) rfl w.heap.size 0 0 { data := #[] } false rfl rfl Z3 ?_))
    (try simp only [Exit.inBlock, Exit.then])
    exact bodyPost_ret (results_dg rfl _ _ w.heap.size rfl (Z3.put 0 0 _ _)) rfl ⟨by rw [HT.out]; rfl, Q.out _, P0.out⟩
  · rw [hl] at L
    have HT := Lib.hid (show takenV N d = _ from by unfold takenV; rw [hl, if_pos rfl])
    clear hl
    go_wp2_with (first | (go_at_call 13; refine L.mono ?_; rintro e w' ⟨rfl, rfl⟩) | (refine load_dg rfl (.tmp 6) rfl r rfl Y3 ?_) | (refine store_dg rfl (.tmp 4) (.tmp 28) rfl w.heap.size d.frm d.to d.data d.torn rfl rfl Z3 ?_))
    (try simp only [Exit.inBlock, Exit.then])
    exact bodyPost_ret (results_dg rfl _ _ w.heap.size rfl (Z3.put d.frm d.to d.data d.torn)) rfl ⟨by rw [HT.out]; rfl, Q.out _, P1.out⟩
end Go.Proofs.YtpbeohonohcgdaaR
