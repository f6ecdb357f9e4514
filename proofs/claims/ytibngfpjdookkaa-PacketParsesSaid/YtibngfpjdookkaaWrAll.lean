import Derived.Test.YtibngfpjdookkaaWrKit
import Derived.Test.YtibngfpjdookkaaPkVal
/- Writing a packet's body: texts, numbers, processes, configurations, keys, vectors. -/
set_option linter.unusedVariables false
set_option linter.unusedSimpArgs false
namespace Go.Proofs.Ytibngfpjdookkaa
open Go.RowKit Go.Sort

set_option maxHeartbeats 2000000 in
set_option maxRecDepth 100000 in
theorem wwriteString (B g : Nat) (l : List UInt8) (w : World) (h : Wr B g w l) (s : ByteArray) (hl : l.length + s.size ≤ 1099511627776) :
    Calls Try.prog 84 #[.pointer (some ⟨g, 0, none⟩), .string s] w fun e w' => e = .returned (.tuple #[.int .i64 (s.size : Int), .nilIface]) ∧ Wr B g w' (l ++ s.data.toList) ∧ Wrote B g w w' := by
  obtain ⟨i0, hi, hz0, hz1, hz2⟩ := info_parts Try.info8
  have hle := h.le
  go_enter Try.func84, Try.ntmps84
  go_wp2_with fail
  refine (check_any B g l w h).mono ?_
  rintro e w1 ⟨rfl, h1, hb1, hc1⟩
  obtain ⟨hB, v, hbk, hown, hne⟩ := h1
  have hl8 : (cells8 l).length = l.length := cells8_length l
  have c0 : w1.cell? ⟨g, 0, none⟩ = some (.pointer (some ⟨g, 0, none⟩)) := by rw [Lib.cell_of_heap hbk]; rfl
  have c1 : w1.cell? ⟨g, 1, none⟩ = some v := by rw [Lib.cell_of_heap hbk]; rfl
  clear hc1
  go_wp2_with (at_builtin; refine Lib.wpList_append_own_string _ rfl _ _ 51 9 rfl B 5 i0 Try.underlying51 Try.underlying9 hi hz0 hz1 hz2 _ _ _ rfl hown s rfl ?c3 ?c4 ?c5 ?_)
  case c3 => unfold maxLen; omega
  case c4 => omega
  case c5 => have := hb1.below.size; omega
  intro v' w2 hown' hgrow _
  have hlt : g < w1.heap.size := (Array.getElem?_eq_some_iff.1 hbk).1
  have hb2 : w2.heap[g]? = some (.cells #[.pointer (some ⟨g, 0, none⟩), v] 85 (0, 0)) := by
    rw [hgrow.block g hlt (fun e => hne e.symm)]
    exact hbk
  have d0 : w2.cell? ⟨g, 0, none⟩ = some (.pointer (some ⟨g, 0, none⟩)) := by rw [Lib.cell_of_heap hb2]; rfl
  have d1 : w2.cell? ⟨g, 1, none⟩ = some v := by rw [Lib.cell_of_heap hb2]; rfl
  have f1 : w2.frozen? ⟨g, 1, none⟩ = false := Lib.frozen_of_heap hb2 1
  obtain ⟨ao, n', cap, rfl⟩ : ∃ ao n' cap, v' = .slice ao n' cap := by
    rcases hown'.2 with ⟨hv, _⟩ | ⟨g, cap, cur, hv, _⟩
    · exact ⟨_, _, _, hv⟩
    · exact ⟨_, _, _, hv⟩
  go_wp2
  go_ret2
  have e8 : cells8 (l ++ s.data.toList) = cells8 l ++ Lib.strCells s := cells8_append _ _
  refine ⟨rfl, ⟨_, .inr rfl, Lib.BuilderAt.put (T := 85) (e := 5) hB hb2 (bs' := cells8 (l ++ s.data.toList)) (by rw [e8]; simpa [Lib.strCells_length, cells8_length] using hown') (by decide)⟩, ?_⟩
  refine hb1.trans (Wrote.trans ⟨?_, ?_⟩ (wrote_set hB 1 _))
  · exact (Below.refl B w1).grown hgrow (by have := hb1.below.size; omega) (fun k hk => (hown.lt k hk).1)
  · exact fun j hj hg hb => hgrow.block j hj (fun e => hb (own_byt hown e.symm))

theorem own_src {w : World} {base g n cap : Nat} {L : List UInt8} (h : w.ownsRow base 5 1 (.slice (some ⟨g, 0, none⟩) n cap) n (cells8 L)) : ∀ j u, (cells8 L)[j]? = some u → w.cell? ((⟨g, 0, none⟩ : Addr).add j) = some u := by
  rcases Src.own h with ⟨h, _⟩ | ⟨ad, e, hs⟩
  · cases h
  · cases e; exact hs

set_option maxHeartbeats 2000000 in
theorem wput (B g : Nat) (l : List UInt8) (w : World) (h : Wr B g w l) (v n : Nat) (k : Int) (hk : wid k = n) (hn : 0 < n) (hn8 : n ≤ 8) (hv : v < 18446744073709551616) (hl : l.length ≤ 1099511000000) :
    Calls Try.prog 66 #[.pointer (some ⟨g, 0, none⟩), .int .u64 (v : Int), .int .i64 k] w fun e w' => e = .returned (.tuple #[]) ∧ Wr B g w' (l ++ pb n v) ∧ Wrote B g w w' := by
  have hle := h.le
  have h' : Wr B g w.drew l := h
  have hlt : w.heap.size ≠ g := by have := h.lt; omega
  go_enter Try.func66, Try.ntmps66
  go_wp2
  go_region_held2 (fun _ => True) (trivial)
    (first
      | (go_at_call 82; (refine (put_len w.heap.size none [] 0 0 v k n w.drew rfl (.inl ⟨rfl, rfl⟩) rfl (by decide) hv hk hn8).mono ?_); rintro e w1 ⟨rfl, hown, hb1⟩; (have HW := wwrite B g l w1 (h'.later hb1) ⟨w.heap.size, 0, none⟩ n n (pb n v) (pb_length n v) hlt (own_src hown) (by omega)); clear hown)
      | (go_at_call 85; (refine HW.mono ?_); rintro e w2 ⟨rfl, H2, K2⟩))
  go_wp2
  go_end0
  exact ⟨rfl, H2, (Wrote.grw (Grw.refl w).drew hle).trans ((Wrote.of_below (w := w.drew) hb1 hle).trans K2)⟩
end Go.Proofs.Ytibngfpjdookkaa

/- Writing a packet's body: small numbers, processes, configurations, keys, vectors. -/
set_option linter.unusedVariables false
set_option linter.unusedSimpArgs false
namespace Go.Proofs.Ytibngfpjdookkaa
open Go.RowKit Go.Sort

/-- What a writer's method does: it puts those bytes; or gives up by that error. -/
def WP (c : Nat) (put : List UInt8) (B g : Nat) (l : List UInt8) (w : World) (e : Ending) (w' : World) : Prop :=
  (c = 0 ∧ e = .returned (.tuple #[]) ∧ Wr B g w' (l ++ put) ∧ Wrote B g w w') ∨ (c ≠ 0 ∧ e = .panicked (pan c) ∧ Wrote B g w w')
/-- What the packet's lists stand in: a world below B, of which nothing has turned. -/
structure Und (B : Nat) (w0 w : World) : Prop where
  size : w0.heap.size = B
  below : Below B w0 w
theorem Und.later {B g : Nat} {w0 w w' : World} (h : Und B w0 w) (k : Wrote B g w w') : Und B w0 w' := ⟨h.size, h.below.trans k.below⟩
theorem Und.alloc {B : Nat} {w0 w : World} (h : Und B w0 w) (hB : B ≤ w.heap.size) (o : Obj) : Und B w0 (w.alloc o) := ⟨h.size, h.below.alloc hB o⟩
theorem Und.vec {B : Nat} {w0 w : World} {v : Vc} {l : List Nat} (h : Und B w0 w) (hv : VecAt w0 v l) : VecAt w v l := hv.below (by rw [h.size]; exact h.below)
theorem wrote_alloc {B g : Nat} {w : World} (hB : B ≤ w.heap.size) (o : Obj) : Wrote B g w (w.alloc o) := Wrote.grw ((Grw.refl w).alloc o) hB

set_option maxHeartbeats 1000000 in
theorem wsmall (B g : Nat) (l : List UInt8) (w : World) (h : Wr B g w l) (v : Int) (n m c : Nat) (k : Int) (hk : wid k = n) (hn : 0 < n) (hn8 : n ≤ 8) (hm : m < 65536) (hc : c ≠ 0) (hl : l.length ≤ 1099511000000) :
    Calls Try.prog 83 #[.pointer (some ⟨g, 0, none⟩), .int .i64 v, .int .i64 k, .int .i64 (m : Int), .int .i64 (c : Int)] w (WP (if 0 ≤ v ∧ v ≤ m then 0 else c) (pb n v.toNat) B g l w) := by
  by_cases hv : 0 ≤ v ∧ v ≤ m
  · rw [if_pos hv]
    obtain ⟨u, rfl⟩ := Int.eq_ofNat_of_zero_le hv.1
    have hu : u ≤ m := by omega
    have hu2 : (u : Int) < 65536 := by omega
    clear hv
    go_enter Try.func83, Try.ntmps83
    go_wp2_with fail
    refine (within_yes u m c _ hu).mono ?_
    rintro e w1 ⟨rfl, rfl⟩
    go_wp2_with fail
    refine (wput B g l _ h u n k hk hn hn8 (by omega) hl).mono ?_
    rintro e w1 ⟨rfl, H1, K1⟩
    go_wp2
    go_end0
    exact .inl ⟨rfl, rfl, H1, K1⟩
  · rw [if_neg hv]
    go_enter Try.func83, Try.ntmps83
    go_wp2_with fail
    refine (within_no v m c _ (by omega)).mono ?_
    rintro e w1 ⟨rfl, rfl⟩
    exact ⟨rfl, .inr ⟨hc, rfl, Wrote.refl _ _ _⟩⟩
theorem wprocess (B g : Nat) (l : List UInt8) (w : World) (h : Wr B g w l) (p : Int) (hl : l.length ≤ 1099511000000) :
    Calls Try.prog 68 #[.pointer (some ⟨g, 0, none⟩), .int .i64 p] w (WP (errP p) (putP p) B g l w) := by
  go_enter Try.func68, Try.ntmps68
  go_wp2_with fail
  refine (wsmall B g l _ h p 1 63 1 1 (by decide) (by decide) (by decide) (by decide) (by decide) hl).mono ?_
  rintro e w1 (⟨hc, rfl, H1, K1⟩ | ⟨hc, rfl, K1⟩)
  · have HC := Lib.hid hc
    clear hc
    go_wp2
    go_end0
    exact .inl ⟨HC.out, rfl, H1, K1⟩
  · have HE := Lib.hid (show (if 0 ≤ p ∧ p ≤ ((63 : Nat) : Int) then 0 else 1) = errP p from rfl)
    rw [HE.out] at hc ⊢
    exact ⟨rfl, .inr ⟨hc, rfl, K1⟩⟩

set_option maxHeartbeats 1000000 in
theorem wconf (B g : Nat) (l : List UInt8) (w : World) (h : Wr B g w l) (c : PC) (hc : c.typed) (hl : l.length ≤ 1099510000000) :
    Calls Try.prog 64 #[.pointer (some ⟨g, 0, none⟩), .agg #[.int .u64 (c.e : Int), .int .i64 c.r]] w (WP (errC c) (putC c) B g l w) := by
  obtain ⟨ce, cr⟩ := c
  have hce : ce < 18446744073709551616 := hc
  clear hc
  have hle := h.le
  have hlt := h.lt
  have O0 := Own.new w 28 #[.int .u64 (ce : Int), .int .i64 cr]
  have H0 := h.later ((Grw.refl w).alloc (.cells #[.int .u64 (ce : Int), .int .i64 cr] 28)).below
  go_enter Try.func64, Try.ntmps64
  go_wp2_with fail
  refine (wput B g l _ H0 ce 8 8 (by decide) (by decide) (by decide) hce (by omega)).mono ?_
  rintro e w1 ⟨rfl, H1, K1⟩
  have O1 := O0.wrote K1 (by omega) (by decide)
  have c1 := O1.at_ 1 _ rfl
  have K0 := (wrote_alloc (B := B) (g := g) hle (.cells #[.int .u64 (ce : Int), .int .i64 cr] 28)).trans K1
  clear O0 O1 K1 H0
  go_wp2_with fail
  refine (wprocess B g _ _ H1 cr (by rw [List.length_append, pb_length]; omega)).mono ?_
  rintro e w2 (⟨hc, rfl, H2, K2⟩ | ⟨hc, rfl, K2⟩)
  · have HC := Lib.hid hc
    clear hc c1
    go_wp2
    go_end0
    exact .inl ⟨HC.out, rfl, by rw [List.append_assoc] at H2; exact H2, K0.trans K2⟩
  · exact ⟨rfl, .inr ⟨hc, rfl, K0.trans K2⟩⟩
set_option maxHeartbeats 1000000 in
theorem wkey (B g : Nat) (l : List UInt8) (w : World) (h : Wr B g w l) (c : PC) (hc : c.typed) (hl : l.length ≤ 1099510000000) :
    Calls Try.prog 90 #[.pointer (some ⟨g, 0, none⟩), .agg #[.int .u64 (c.e : Int), .int .i64 c.r]] w (WP (errC c) (putC c) B g l w) := by
  obtain ⟨ce, cr⟩ := c
  have hce : ce < 18446744073709551616 := hc
  clear hc
  have hle := h.le
  have hlt := h.lt
  have O0 := Own.new w 48 #[.int .u64 (ce : Int), .int .i64 cr]
  have H0 := h.later ((Grw.refl w).alloc (.cells #[.int .u64 (ce : Int), .int .i64 cr] 48)).below
  go_enter Try.func90, Try.ntmps90
  go_wp2_with fail
  refine (wput B g l _ H0 ce 8 8 (by decide) (by decide) (by decide) hce (by omega)).mono ?_
  rintro e w1 ⟨rfl, H1, K1⟩
  have O1 := O0.wrote K1 (by omega) (by decide)
  have c1 := O1.at_ 1 _ rfl
  have K0 := (wrote_alloc (B := B) (g := g) hle (.cells #[.int .u64 (ce : Int), .int .i64 cr] 48)).trans K1
  clear O0 O1 K1 H0
  go_wp2_with fail
  refine (wprocess B g _ _ H1 cr (by rw [List.length_append, pb_length]; omega)).mono ?_
  rintro e w2 (⟨hc, rfl, H2, K2⟩ | ⟨hc, rfl, K2⟩)
  · have HC := Lib.hid hc
    clear hc c1
    go_wp2
    go_end0
    exact .inl ⟨HC.out, rfl, by rw [List.append_assoc] at H2; exact H2, K0.trans K2⟩
  · exact ⟨rfl, .inr ⟨hc, rfl, K0.trans K2⟩⟩

theorem putNs_take (l : List Nat) (k : Nat) (h : k < l.length) : putNs (l.take (k + 1)) = putNs (l.take k) ++ pb 4 l[k] := by
  have e : ∀ a b : List Nat, putNs (a ++ b) = putNs a ++ putNs b := by
    intro a b
    induction a with
    | nil => rfl
    | cons x a ih => rw [List.cons_append, putNs, putNs, ih, List.append_assoc]
  rw [List.take_succ_eq_append_getElem h, e]
  simp [putNs]
theorem putNs_take_length (l : List Nat) (k : Nat) (h : k ≤ l.length) : (putNs (l.take k)).length = 4 * k := by rw [putNs_length, List.length_take, Nat.min_eq_left h]

set_option maxHeartbeats 2000000 in
theorem wvector (B g : Nat) (l : List UInt8) (w0 w : World) (h : Wr B g w l) (hu : Und B w0 w) (v : Vc) (vs : List Nat) (hv : VecAt w0 v vs) (hn : v.n ≤ 1099511627776) (hl : l.length ≤ 1099500000000) :
    Calls Try.prog 67 #[.pointer (some ⟨g, 0, none⟩), .slice v.a v.n v.c] w (WP (errV vs) (putV vs) B g l w) := by
  obtain ⟨a, n, c⟩ := v
  have hlen : vs.length = n := hv.len
  simp only at hn
  have HV := Lib.hid hv
  clear hv
  go_enter Try.func67, Try.ntmps67
  go_wp2_with fail
  refine (wsmall B g l _ h (n : Int) 1 64 3 1 (by decide) (by decide) (by decide) (by decide) (by decide) (by omega)).mono ?_
  rintro e w1 (⟨hc, rfl, H1, K1⟩ | ⟨hc, rfl, K1⟩)
  case inr =>
    have hn64 : 64 < n := by
      by_cases hx : 64 < n
      · exact hx
      · exact absurd (if_pos (show 0 ≤ (n : Int) ∧ (n : Int) ≤ ((64 : Nat) : Int) by omega)) hc
    have he : errV vs = 3 := by unfold errV; rw [if_pos (by omega)]
    rw [he]
    rw [if_neg (show ¬ (0 ≤ (n : Int) ∧ (n : Int) ≤ ((64 : Nat) : Int)) by omega)]
    exact ⟨rfl, .inr ⟨by decide, rfl, K1⟩⟩
  have hn64 : n ≤ 64 := by
    by_cases hx : n ≤ 64
    · exact hx
    · rw [if_neg (by omega)] at hc; cases hc
  have he : errV vs = 0 := by unfold errV; rw [if_neg (by omega)]
  have HE := Lib.hid he
  have HL := Lib.hid hlen
  clear hc he hlen
  rw [Int.toNat_natCast] at H1
  have HU := Lib.hid hu
  clear h hu
  go_wp2_with fail
  go_loopw [12] (fun si wr => ∃ k : Nat, k ≤ n ∧ si = .int .i64 (k : Int) ∧ Wr B g wr (l ++ (pb 1 n ++ putNs (vs.take k))) ∧ Wrote B g w wr) (fun si _ => n - (intOf si).toNat)
  case atStart => exact ⟨0, Nat.zero_le _, rfl, by rw [List.take_zero, putNs, List.append_nil]; exact H1, K1⟩
  case round =>
    clear H1
    obtain ⟨k, hk, rfl, H, K⟩ := hrel
    by_cases hlt : k < n
    · have hkl : k < vs.length := by rw [HL.out]; exact hlt
      have hwd := HV.out.words vs[k] (List.getElem_mem hkl)
      obtain ⟨b, o, rfl, hc⟩ := HV.out.at_ k vs[k] (List.getElem?_eq_getElem hkl)
      have hcr : wr.cell? ⟨b, o + k, none⟩ = some (.int .u32 (vs[k] : Int)) := by
        have hb0 : b < B := by rw [← HU.out.size]; exact World.block_lt_of_cell? _ _ hc
        exact ((HU.out.below.trans K.below).cell (p := ⟨b, o + k, none⟩) hb0).trans hc
      have HP := Lib.hid (putNs_take vs k hkl)
      have HLN := Lib.hid (putNs_take_length vs k (Nat.le_of_lt hkl))
      clear hc
      generalize vs[k] = x at *
      have hx : x < 4294967296 := hwd
      clear hwd hkl
      go_wp2_with fail
      refine (wput B g _ _ H x 4 4 (by decide) (by decide) (by decide) (by omega) (by rw [List.length_append, List.length_append, pb_length, HLN.out]; omega)).mono ?_
      rintro e w3 ⟨rfl, H3, K3⟩
      clear hcr
      go_wp2_with fail
      go_roundw
      case rel => exact ⟨k + 1, by omega, by go_num, by rw [HP.out]; simpa [List.append_assoc] using H3, K.trans K3⟩
      case measure => simp [intOf]; omega
    · obtain rfl : k = n := by omega
      have ht : vs.take k = vs := List.take_of_length_le (by rw [HL.out]; exact Nat.le_refl _)
      have HT := Lib.hid ht
      clear ht
      go_wp2
      go_end0
      exact .inl ⟨HE.out, rfl, by (unfold putV; rw [HL.out]; rw [HT.out] at H; exact H), K⟩
end Go.Proofs.Ytibngfpjdookkaa

/- Writing a packet's body: messages, exchanges. -/
set_option linter.unusedVariables false
set_option linter.unusedSimpArgs false
namespace Go.Proofs.Ytibngfpjdookkaa
open Go.RowKit Go.Sort

theorem WP.error {c : Nat} {put put' : List UInt8} {B g : Nat} {l l' : List UInt8} {w w1 w2 : World} {e : Ending} (h : WP c put B g l' w1 e w2) (k : Wrote B g w w1) (hc : c ≠ 0) {c' : Nat} (hcc : c' = c) : WP c' put' B g l w e w2 := by
  rcases h with ⟨rfl, _⟩ | ⟨h1, h2, h3⟩
  · exact absurd rfl hc
  · exact .inr ⟨by rw [hcc]; exact hc, by rw [hcc]; exact h2, k.trans h3⟩

set_option maxHeartbeats 2000000 in
theorem wmessage (B g : Nat) (l : List UInt8) (w0 w : World) (h : Wr B g w l) (hu : Und B w0 w) (m : PM) (T : ByteArray) (v : Vc) (hT : T.data.toList = m.text) (ht : m.typed) (hv : VecAt w0 v m.deps) (hn : v.n ≤ 1048576) (hTs : T.size ≤ 1048576) (hl : l.length ≤ 1099400000000) :
    Calls Try.prog 65 #[.pointer (some ⟨g, 0, none⟩), .agg #[.int .i64 m.f, .int .u32 (m.q : Int), .int .u64 (m.s : Int), .int .i64 m.v, .slice v.a v.n v.c, .string T]] w (WP (errM m) (putM m) B g l w) := by
  obtain ⟨mf, mq, ms, mv, md, mt⟩ := m
  obtain ⟨va, vn, vc⟩ := v
  obtain ⟨hq, hs, hw⟩ := ht
  simp only at hT hv hn hq hs hw
  have hq' : mq < 4294967296 := hq
  have hs' : ms < 18446744073709551616 := hs
  have hdl : md.length = vn := hv.len
  have htl : T.size = mt.length := by rw [← hT, Array.length_toList]; rfl
  have HV := Lib.hid hv
  have HT := Lib.hid hT
  have HD := Lib.hid hdl
  have HTL := Lib.hid htl
  have hle := h.le
  have hlt := h.lt
  have O0 := Own.new w 32 #[.int .i64 mf, .int .u32 (mq : Int), .int .u64 (ms : Int), .int .i64 mv, .slice va vn vc, .string T]
  have H0 := h.later ((Grw.refl w).alloc (.cells #[.int .i64 mf, .int .u32 (mq : Int), .int .u64 (ms : Int), .int .i64 mv, .slice va vn vc, .string T] 32)).below
  have K0 := wrote_alloc (B := B) (g := g) hle (.cells #[.int .i64 mf, .int .u32 (mq : Int), .int .u64 (ms : Int), .int .i64 mv, .slice va vn vc, .string T] 32)
  have HU := Lib.hid hu
  have hgw : w.heap.size ≠ g := by omega
  clear hv hT hdl htl hq hs hw hu h
  go_enter Try.func65, Try.ntmps65
  go_wp2_with fail
  refine (wput B g l _ H0 mq 4 4 (by decide) (by decide) (by decide) (by omega) (by omega)).mono ?_
  rintro e w1 ⟨rfl, H1, K1⟩
  have O1 := O0.wrote K1 hgw (by decide)
  have c2 : w1.cell? ⟨w.heap.size, 2, none⟩ = some (.int .u64 (ms : Int)) := O1.at_ 2 _ rfl
  have K01 := K0.trans K1
  clear O0 K1 H0 K0
  go_wp2_with fail
  refine (wput B g _ _ H1 ms 8 8 (by decide) (by decide) (by decide) (by omega) (by rw [List.length_append, pb_length]; omega)).mono ?_
  rintro e w2 ⟨rfl, H2, K2⟩
  have O2 := O1.wrote K2 hgw (by decide)
  have c3 : w2.cell? ⟨w.heap.size, 3, none⟩ = some (.int .i64 mv) := O2.at_ 3 _ rfl
  have K02 := K01.trans K2
  clear O1 K2 H1 K01 c2
  go_wp2_with fail
  refine (wsmall B g _ _ H2 mv 1 2 1 1 (by decide) (by decide) (by decide) (by decide) (by decide) (by rw [List.length_append, List.length_append, pb_length, pb_length]; omega)).mono ?_
  rintro e w3 (⟨hc, rfl, H3, K3⟩ | ⟨hc, rfl, K3⟩)
  case inr =>
    have h1 : mv < 0 ∨ 2 < mv := by
      by_cases hx : mv < 0 ∨ 2 < mv
      · exact hx
      · exact absurd (if_pos (show 0 ≤ mv ∧ mv ≤ ((2 : Nat) : Int) by omega)) hc
    rw [if_neg (show ¬ (0 ≤ mv ∧ mv ≤ ((2 : Nat) : Int)) by omega)]
    have he : errM ⟨mf, mq, ms, mv, md, mt⟩ = 1 := by unfold errM; rw [if_pos h1]; rfl
    exact ⟨rfl, .inr ⟨by rw [he]; decide, by rw [he], K02.trans K3⟩⟩
  have h1 : ¬ (mv < 0 ∨ 2 < mv) := by
    intro hx
    rw [if_neg (show ¬ (0 ≤ mv ∧ mv ≤ ((2 : Nat) : Int)) by omega)] at hc
    cases hc
  have HE1 : Hid (errM ⟨mf, mq, ms, mv, md, mt⟩ = orN (errV md) (if 1024 < mt.length then 3 else 0)) := Lib.hid (by unfold errM; rw [if_neg h1]; rfl)
  have O3 := O2.wrote K3 hgw (by decide)
  have c4 : w3.cell? ⟨w.heap.size, 4, none⟩ = some (.slice va vn vc) := O3.at_ 4 _ rfl
  have K03 := K02.trans K3
  clear O2 K3 H2 K02 c3 hc h1
  go_wp2_with fail
  refine (wvector B g _ w0 _ H3 (HU.out.later K03) ⟨va, vn, vc⟩ md HV.out (by show vn ≤ _; omega) (by simp only [List.length_append, pb_length]; omega)).mono ?_
  rintro e w4 (⟨hc, rfl, H4, K4⟩ | ⟨hc, rfl, K4⟩)
  case inr =>
    have he : errM ⟨mf, mq, ms, mv, md, mt⟩ = errV md := by rw [HE1.out, orN_left hc]
    exact ⟨rfl, .inr ⟨by rw [he]; exact hc, by rw [he], K03.trans K4⟩⟩
  have HE2 : Hid (errM ⟨mf, mq, ms, mv, md, mt⟩ = if 1024 < mt.length then 3 else 0) := Lib.hid (by rw [HE1.out, orN_right hc])
  have hmd : md.length ≤ 64 := by
    unfold errV at hc
    split at hc
    · cases hc
    · omega
  have O4 := O3.wrote K4 hgw (by decide)
  have c5 : w4.cell? ⟨w.heap.size, 5, none⟩ = some (.string T) := O4.at_ 5 _ rfl
  have K04 := K03.trans K4
  have HL4 : Hid ((l ++ pb 4 mq ++ pb 8 ms ++ pb 1 mv.toNat ++ putV md).length = l.length + 14 + 4 * md.length) := Lib.hid (by simp only [List.length_append, pb_length, putV_length]; omega)
  clear O3 K4 H3 K03 c4 hc HE1
  go_wp2_with fail
  refine (wsmall B g _ _ H4 (T.size : Int) 2 1024 3 2 (by decide) (by decide) (by decide) (by decide) (by decide) (by rw [HL4.out]; omega)).mono ?_
  rintro e w5 (⟨hc, rfl, H5, K5⟩ | ⟨hc, rfl, K5⟩)
  case inr =>
    have h1 : 1024 < T.size := by
      by_cases hx : 1024 < T.size
      · exact hx
      · exact absurd (if_pos (show 0 ≤ (T.size : Int) ∧ (T.size : Int) ≤ ((1024 : Nat) : Int) by omega)) hc
    rw [if_neg (show ¬ (0 ≤ (T.size : Int) ∧ (T.size : Int) ≤ ((1024 : Nat) : Int)) by omega)]
    have he : errM ⟨mf, mq, ms, mv, md, mt⟩ = 3 := by rw [HE2.out, if_pos (by have := HTL.out; omega)]
    exact ⟨rfl, .inr ⟨by rw [he]; decide, by rw [he], K04.trans K5⟩⟩
  have h1 : T.size ≤ 1024 := by
    by_cases hx : T.size ≤ 1024
    · exact hx
    · rw [if_neg (by omega)] at hc; cases hc
  have HE3 : Hid (errM ⟨mf, mq, ms, mv, md, mt⟩ = 0) := Lib.hid (by rw [HE2.out, if_neg (by have := HTL.out; omega)])
  have O5 := O4.wrote K5 hgw (by decide)
  have d5 : w5.drew.cell? ⟨w.heap.size, 5, none⟩ = some (.string T) := O5.at_ 5 _ rfl
  have K05 := K04.trans K5
  rw [Int.toNat_natCast] at H5
  have H5d : Wr B g w5.drew _ := H5
  have HW := Lib.hid (wwriteString B g _ _ H5d T (by rw [List.length_append, pb_length, HL4.out]; omega))
  clear O4 K5 H4 K04 c5 hc HE2
  go_wp2_with fail
  go_region_held2 (fun W => W.cell? ⟨w.heap.size, 5, none⟩ = some (.string T)) (first | (with_reducible exact e5) | go_keep)
    (first
      | (go_at_call 84; (refine HW.out.mono ?_); rintro e w6 ⟨rfl, H6, K6⟩; (have e5 : w6.cell? ⟨w.heap.size, 5, none⟩ = some (.string T) := (Own.wrote (w := w5.drew) O5.drew K6 hgw (by decide)).at_ 5 _ rfl)))
  go_wp2
  go_end0
  refine .inl ⟨HE3.out, rfl, ?_, (K05.trans (Wrote.grw (Grw.refl w5).drew (by have := K05.below.size; omega))).trans K6⟩
  have e : l ++ putM ⟨mf, mq, ms, mv, md, mt⟩ = l ++ pb 4 mq ++ pb 8 ms ++ pb 1 mv.toNat ++ putV md ++ pb 2 T.size ++ T.data.toList := by
    unfold putM
    simp only [List.append_assoc, HT.out, HTL.out]
  rw [e]
  exact H6

set_option maxHeartbeats 2000000 in
theorem wexchange (B g : Nat) (l : List UInt8) (w0 w : World) (h : Wr B g w l) (hu : Und B w0 w) (x : PX) (v : Vc) (ht : x.typed) (hv : VecAt w0 v x.cnt) (hn : v.n ≤ 1048576) (hl : l.length ≤ 1099400000000) :
    Calls Try.prog 86 #[.pointer (some ⟨g, 0, none⟩), .agg (encX x v).toArray] w (WP (errX x) (putX x) B g l w) := by
  obtain ⟨xw, ⟨ce, cr⟩, cnt, ls, lf⟩ := x
  obtain ⟨va, vn, vc⟩ := v
  obtain ⟨ho, hw, hls⟩ := ht
  simp only at hv hn ho hw hls
  have hdl : cnt.length = vn := hv.len
  have HV := Lib.hid hv
  have HD := Lib.hid hdl
  have hle := h.le
  have hlt := h.lt
  simp only [encX]
  have O0 := Own.new w 50 #[.int .i64 xw, .int .u64 (ce : Int), .int .i64 cr, .slice va vn vc, .int .u64 (ls : Int), .int .i64 lf]
  have H0 := h.later ((Grw.refl w).alloc (.cells #[.int .i64 xw, .int .u64 (ce : Int), .int .i64 cr, .slice va vn vc, .int .u64 (ls : Int), .int .i64 lf] 50)).below
  have K0 := wrote_alloc (B := B) (g := g) hle (.cells #[.int .i64 xw, .int .u64 (ce : Int), .int .i64 cr, .slice va vn vc, .int .u64 (ls : Int), .int .i64 lf] 50)
  have HU := Lib.hid hu
  have hgw : w.heap.size ≠ g := by omega
  have HO := Lib.hid ho
  have HLS := Lib.hid hls
  have HE0 : Hid (errX ⟨xw, ⟨ce, cr⟩, cnt, ls, lf⟩ = orN (errP xw) (orN (errC ⟨ce, cr⟩) (orN (errV cnt) (errP lf)))) := Lib.hid rfl
  clear hv hdl hw hu h ho hls
  go_enter Try.func86, Try.ntmps86
  go_wp2_with fail
  refine (wprocess B g l _ H0 xw (by omega)).mono ?_
  rintro e w1 (⟨hc, rfl, H1, K1⟩ | ⟨hc, rfl, K1⟩)
  case inr =>
    have he : errX ⟨xw, ⟨ce, cr⟩, cnt, ls, lf⟩ = errP xw := by rw [HE0.out, orN_left hc]
    exact ⟨rfl, .inr ⟨by rw [he]; exact hc, by rw [he], K0.trans K1⟩⟩
  have HE1 : Hid (errX ⟨xw, ⟨ce, cr⟩, cnt, ls, lf⟩ = orN (errC ⟨ce, cr⟩) (orN (errV cnt) (errP lf))) := Lib.hid (by rw [HE0.out, orN_right hc])
  have O1 := O0.wrote K1 hgw (by decide)
  have c1 : w1.cell? ⟨w.heap.size, 1, none⟩ = some (.int .u64 (ce : Int)) := O1.at_ 1 _ rfl
  have c2 : w1.cell? ⟨w.heap.size, 2, none⟩ = some (.int .i64 cr) := O1.at_ 2 _ rfl
  have K01 := K0.trans K1
  clear O0 K1 H0 K0 hc HE0
  go_wp2_with fail
  refine (wconf B g _ _ H1 ⟨ce, cr⟩ HO.out (by rw [List.length_append, putP_length]; omega)).mono ?_
  rintro e w2 (⟨hc, rfl, H2, K2⟩ | ⟨hc, rfl, K2⟩)
  case inr =>
    have he : errX ⟨xw, ⟨ce, cr⟩, cnt, ls, lf⟩ = errC ⟨ce, cr⟩ := by rw [HE1.out, orN_left hc]
    exact ⟨rfl, .inr ⟨by rw [he]; exact hc, by rw [he], K01.trans K2⟩⟩
  have HE2 : Hid (errX ⟨xw, ⟨ce, cr⟩, cnt, ls, lf⟩ = orN (errV cnt) (errP lf)) := Lib.hid (by rw [HE1.out, orN_right hc])
  have O2 := O1.wrote K2 hgw (by decide)
  have c3 : w2.cell? ⟨w.heap.size, 3, none⟩ = some (.slice va vn vc) := O2.at_ 3 _ rfl
  have K02 := K01.trans K2
  clear O1 K2 H1 K01 c1 c2 hc HE1
  go_wp2_with fail
  refine (wvector B g _ w0 _ H2 (HU.out.later K02) ⟨va, vn, vc⟩ cnt HV.out (by show vn ≤ _; omega) (by simp only [List.length_append, putP_length, putC_length]; omega)).mono ?_
  rintro e w3 (⟨hc, rfl, H3, K3⟩ | ⟨hc, rfl, K3⟩)
  case inr =>
    have he : errX ⟨xw, ⟨ce, cr⟩, cnt, ls, lf⟩ = errV cnt := by rw [HE2.out, orN_left hc]
    exact ⟨rfl, .inr ⟨by rw [he]; exact hc, by rw [he], K02.trans K3⟩⟩
  have HE3 : Hid (errX ⟨xw, ⟨ce, cr⟩, cnt, ls, lf⟩ = errP lf) := Lib.hid (by rw [HE2.out, orN_right hc])
  have hmd : cnt.length ≤ 64 := by
    unfold errV at hc
    split at hc
    · cases hc
    · omega
  have O3 := O2.wrote K3 hgw (by decide)
  have c4 : w3.cell? ⟨w.heap.size, 4, none⟩ = some (.int .u64 (ls : Int)) := O3.at_ 4 _ rfl
  have c5 : w3.cell? ⟨w.heap.size, 5, none⟩ = some (.int .i64 lf) := O3.at_ 5 _ rfl
  have K03 := K02.trans K3
  clear O2 K3 H2 K02 c3 hc HE2
  go_wp2_with fail
  refine (wkey B g _ _ H3 ⟨ls, lf⟩ HLS.out (by simp only [List.length_append, putP_length, putC_length, putV_length]; omega)).mono ?_
  rintro e w4 (⟨hc, rfl, H4, K4⟩ | ⟨hc, rfl, K4⟩)
  case inr =>
    have he : errX ⟨xw, ⟨ce, cr⟩, cnt, ls, lf⟩ = errC ⟨ls, lf⟩ := HE3.out
    exact ⟨rfl, .inr ⟨by rw [he]; exact hc, by rw [he], K03.trans K4⟩⟩
  have HC := Lib.hid hc
  clear hc c4 c5
  go_wp2
  go_end0
  refine .inl ⟨by rw [HE3.out]; exact HC.out, rfl, ?_, K03.trans K4⟩
  have e : l ++ putX ⟨xw, ⟨ce, cr⟩, cnt, ls, lf⟩ = l ++ putP xw ++ putC ⟨ce, cr⟩ ++ putV cnt ++ putC ⟨ls, lf⟩ := by
    unfold putX
    rw [show putC ⟨ls, lf⟩ = pb 8 ls ++ putP lf from rfl]
    simp only [List.append_assoc]
  rw [e]
  exact H4
end Go.Proofs.Ytibngfpjdookkaa

/- Writing a packet's body: one exchange, many. -/
set_option linter.unusedVariables false
set_option linter.unusedSimpArgs false
namespace Go.Proofs.Ytibngfpjdookkaa
open Go.RowKit Go.Sort

theorem xcells {w0 : World} {v : Vc} {l : List PX} (h : XsAt w0 v l) {j : Nat} {x : PX} (hj : l[j]? = some x) {B : Nat} (hB : w0.heap.size = B) :
    ∃ b o vc, v.a = some ⟨b, o, none⟩ ∧ VecAt w0 vc x.cnt ∧ ∀ w, Below B w0 w → ∀ (c : Nat) (u : Value), (encX x vc)[c]? = some u → w.cell? ⟨b, o + j * 6 + c, none⟩ = some u := by
  obtain ⟨b, o, vc, e, hv, hc⟩ := h.at_ j x hj
  refine ⟨b, o, vc, e, hv, fun w hb c u hu => ?_⟩
  have := hc c u hu
  have hlt : b < B := by rw [← hB]; exact World.block_lt_of_cell? _ _ this
  exact (hb.cell (p := ⟨b, o + j * 6 + c, none⟩) hlt).trans this

def errO (xs : List PX) : Nat := if xs.length ≠ 1 then 1 else errXs xs
def errLs (xs : List PX) : Nat := if 64 < xs.length then 3 else errXs xs

set_option maxHeartbeats 2000000 in
theorem wonly (B g : Nat) (l : List UInt8) (w0 w : World) (h : Wr B g w l) (hu : Und B w0 w) (v : Vc) (xs : List PX) (hx : XsAt w0 v xs) (ht : ∀ x ∈ xs, x.typed) (hn : ∀ x ∈ xs, x.cnt.length ≤ 1048576) (hvn : v.n ≤ 1099511627776) (hl : l.length ≤ 1099400000000) :
    Calls Try.prog 69 #[.pointer (some ⟨g, 0, none⟩), .slice v.a v.n v.c] w (WP (errO xs) (putXs xs) B g l w) := by
  obtain ⟨a, n, c⟩ := v
  have hlen : xs.length = n := hx.len
  simp only at hvn
  by_cases h1 : n = 1
  · subst h1
    obtain ⟨x, rfl⟩ := List.length_eq_one_iff.1 hlen
    obtain ⟨b, o, vc, e, hv, hc⟩ := xcells hx (j := 0) rfl hu.size
    simp only at e
    subst e
    have hcw := hc w hu.below
    have hxt := ht x (List.mem_singleton.2 rfl)
    have hxn := hn x (List.mem_singleton.2 rfl)
    have hvcn : vc.n ≤ 1048576 := by rw [← hv.len]; exact hxn
    have HX := Lib.hid (wexchange B g l w0 w h hu x vc hxt hv hvcn hl)
    have e0 : orN (errX x) 0 = errX x := by unfold orN; split <;> omega
    have HE : Hid (errO [x] = errX x) := Lib.hid e0
    have HP : Hid (putXs [x] = putX x) := Lib.hid (by unfold putXs putXs; rw [List.append_nil])
    obtain ⟨xw, ⟨ce, cr⟩, cnt, ls, lf⟩ := x
    obtain ⟨va, vn, vc⟩ := vc
    have c0 := hcw 0 _ rfl
    have c1 := hcw 1 _ rfl
    have c2 := hcw 2 _ rfl
    have c3 := hcw 3 _ rfl
    have c4 := hcw 4 _ rfl
    have c5 := hcw 5 _ rfl
    simp only [Nat.zero_mul, Nat.add_zero] at c0 c1 c2 c3 c4 c5
    clear hc hcw hx hv ht hn hlen e0 hxt h hu
    go_enter Try.func69, Try.ntmps69
    go_wp2_with fail
    refine HX.out.mono ?_
    rintro e w1 (⟨hc, rfl, H1, K1⟩ | ⟨hc, rfl, K1⟩)
    · have HC := Lib.hid hc
      clear hc
      go_wp2
      go_end0
      exact .inl ⟨by rw [HE.out]; exact HC.out, rfl, by rw [HP.out]; exact H1, K1⟩
    · exact ⟨rfl, .inr ⟨by rw [HE.out]; exact hc, by rw [HE.out], K1⟩⟩
  · have he : errO xs = 1 := by unfold errO; rw [if_pos (by omega)]
    have h2 : ¬ (n : Int) = 1 := by omega
    have HE := Lib.hid he
    clear he hx ht hn hlen h1
    go_enter Try.func69, Try.ntmps69
    go_wp2
    exact ⟨rfl, .inr ⟨by rw [HE.out]; decide, by rw [HE.out]; rfl, Wrote.refl _ _ _⟩⟩

/-- k exchanges were written; what is wrong with all hangs on the rest. -/
structure Some (xs : List PX) (k : Nat) : Prop where
  err : errXs xs = errXs (xs.drop k)
  len : (putXs (xs.take k)).length ≤ 276 * k
theorem Some.zero (xs : List PX) : Some xs 0 := ⟨by rw [List.drop_zero], Nat.zero_le _⟩
theorem putXs_take (l : List PX) (k : Nat) (h : k < l.length) : putXs (l.take (k + 1)) = putXs (l.take k) ++ putX l[k] := by
  have e : ∀ a b : List PX, putXs (a ++ b) = putXs a ++ putXs b := by
    intro a b
    induction a with
    | nil => rfl
    | cons x a ih => rw [List.cons_append, putXs, putXs, ih, List.append_assoc]
  rw [List.take_succ_eq_append_getElem h, e]
  simp [putXs]
theorem Some.bad {xs : List PX} {k : Nat} (h : Some xs k) (hk : k < xs.length) (he : errX xs[k] ≠ 0) : errXs xs = errX xs[k] := by
  rw [h.err, List.drop_eq_getElem_cons hk]
  exact orN_left he
theorem Some.step {xs : List PX} {k : Nat} (h : Some xs k) (hk : k < xs.length) (ht : xs[k].typed) (he : errX xs[k] = 0) : Some xs (k + 1) := by
  refine ⟨?_, ?_⟩
  · rw [h.err, List.drop_eq_getElem_cons hk]
    exact orN_right he
  · rw [putXs_take _ _ hk, List.length_append, putX_length]
    have := ((errX_iff ht).1 he).2.2.1.1
    have := h.len
    omega

set_option maxHeartbeats 2000000 in
theorem wexchanges (B g : Nat) (l : List UInt8) (w0 w : World) (h : Wr B g w l) (hu : Und B w0 w) (v : Vc) (xs : List PX) (hx : XsAt w0 v xs) (ht : ∀ x ∈ xs, x.typed) (hn : ∀ x ∈ xs, x.cnt.length ≤ 1048576) (hvn : v.n ≤ 1099511627776) (hl : l.length ≤ 1099300000000) :
    Calls Try.prog 70 #[.pointer (some ⟨g, 0, none⟩), .slice v.a v.n v.c] w (WP (errLs xs) (putL xs) B g l w) := by
  obtain ⟨a, n, c⟩ := v
  have hlen : xs.length = n := hx.len
  simp only at hvn
  go_enter Try.func70, Try.ntmps70
  go_wp2_with fail
  refine (wsmall B g l _ h (n : Int) 1 64 3 1 (by decide) (by decide) (by decide) (by decide) (by decide) (by omega)).mono ?_
  rintro e w1 (⟨hc, rfl, H1, K1⟩ | ⟨hc, rfl, K1⟩)
  case inr =>
    have hn64 : 64 < n := by
      by_cases hx : 64 < n
      · exact hx
      · exact absurd (if_pos (show 0 ≤ (n : Int) ∧ (n : Int) ≤ ((64 : Nat) : Int) by omega)) hc
    have he : errLs xs = 3 := by unfold errLs; rw [if_pos (by omega)]
    rw [if_neg (show ¬ (0 ≤ (n : Int) ∧ (n : Int) ≤ ((64 : Nat) : Int)) by omega)]
    exact ⟨rfl, .inr ⟨by rw [he]; decide, by rw [he], K1⟩⟩
  have hn64 : n ≤ 64 := by
    by_cases hx : n ≤ 64
    · exact hx
    · rw [if_neg (by omega)] at hc; cases hc
  have HE : Hid (errLs xs = errXs xs) := Lib.hid (by unfold errLs; rw [if_neg (by omega)])
  have HL := Lib.hid hlen
  have HT := Lib.hid ht
  have HN := Lib.hid hn
  have HX := Lib.hid hx
  clear hc hlen ht hn hx
  rw [Int.toNat_natCast] at H1
  have HU := Lib.hid hu
  clear h hu
  go_wp2_with fail
  go_loopw [12] (fun si wr => ∃ k : Nat, k ≤ n ∧ si = .int .i64 (k : Int) ∧ Wr B g wr (l ++ (pb 1 n ++ putXs (xs.take k))) ∧ Wrote B g w wr ∧ Some xs k) (fun si _ => n - (intOf si).toNat)
  case atStart => exact ⟨0, Nat.zero_le _, rfl, by rw [List.take_zero, putXs, List.append_nil]; exact H1, K1, Some.zero _⟩
  case round =>
    clear H1 K1
    obtain ⟨k, hk, rfl, H, K, hS⟩ := hrel
    by_cases hlt : k < n
    · have hkl : k < xs.length := by rw [HL.out]; exact hlt
      have hxt := HT.out xs[k] (List.getElem_mem hkl)
      have hxn := HN.out xs[k] (List.getElem_mem hkl)
      obtain ⟨b, o, vc, e, hv, hc⟩ := xcells HX.out (List.getElem?_eq_getElem hkl) HU.out.size
      simp only at e
      subst e
      have hvcn : vc.n ≤ 1048576 := by rw [← hv.len]; exact hxn
      have hcw := hc wr (HU.out.below.trans K.below)
      have HP := Lib.hid (putXs_take xs k hkl)
      have HB := Lib.hid (fun he => hS.bad hkl he)
      have HSt := Lib.hid (fun he => hS.step hkl hxt he)
      have hLN : (l ++ (pb 1 n ++ putXs (xs.take k))).length ≤ 1099400000000 := by
        rw [List.length_append, List.length_append, pb_length]; have := hS.len; omega
      have hle := H.le
      have hgl := H.lt
      generalize xs[k] = x at *
      have HXX : Hid (∀ W, Wr B g W (l ++ (pb 1 n ++ putXs (xs.take k))) → Und B w0 W → Calls Try.prog 86 #[.pointer (some ⟨g, 0, none⟩), .agg (encX x vc).toArray] W (WP (errX x) (putX x) B g (l ++ (pb 1 n ++ putXs (xs.take k))) W)) := Lib.hid (fun W hW hU => wexchange B g _ w0 W hW hU x vc hxt hv hvcn hLN)
      clear hc hxt hxn hv hLN hkl hS
      obtain ⟨xw, ⟨ce, cr⟩, cnt, ls, lf⟩ := x
      obtain ⟨va, vn, vc⟩ := vc
      have c0 := hcw 0 _ rfl
      have c1 := hcw 1 _ rfl
      have c2 := hcw 2 _ rfl
      have c3 := hcw 3 _ rfl
      have c4 := hcw 4 _ rfl
      have c5 := hcw 5 _ rfl
      simp only [Nat.add_zero] at c0
      clear hcw
      simp only [encX] at *
      go_wp2_with fail
      clear c0 c1 c2 c3 c4 c5
      refine (HXX.out _ (H.later ((Grw.refl wr).alloc _).below) (Und.alloc (HU.out.later K) hle _)).mono ?_
      rintro e w3 (⟨hc, rfl, H3, K3⟩ | ⟨hc, rfl, K3⟩)
      case inr =>
        have he := HB.out hc
        exact ⟨rfl, .inr ⟨by rw [HE.out, he]; exact hc, by rw [HE.out, he], (K.trans (wrote_alloc hle _)).trans K3⟩⟩
      have hS2 := HSt.out hc
      have K4 := (K.trans (wrote_alloc hle _)).trans K3
      clear hc K3
      go_wp2_with fail
      go_roundw
      case rel => exact ⟨k + 1, by omega, by go_num, by rw [HP.out]; simpa [List.append_assoc] using H3, K4, hS2⟩
      case measure => simp [intOf]; omega
    · obtain rfl : k = n := by omega
      have htk : xs.take k = xs := List.take_of_length_le (by rw [HL.out]; exact Nat.le_refl _)
      have hdk : xs.drop k = [] := List.drop_of_length_le (by rw [HL.out]; exact Nat.le_refl _)
      have HT2 := Lib.hid htk
      have HE2 : Hid (errXs xs = 0) := Lib.hid (by rw [hS.err, hdk]; rfl)
      clear htk hdk hS
      go_wp2
      go_end0
      exact .inl ⟨by rw [HE.out, HE2.out], rfl, by (unfold putL; rw [HL.out]; rw [HT2.out] at H; exact H), K⟩
end Go.Proofs.Ytibngfpjdookkaa

/- Writing a packet's body: every kind. (Written by wip/gen_wrbody.py.) -/
set_option linter.unusedVariables false
set_option linter.unusedSimpArgs false
namespace Go.Proofs.Ytibngfpjdookkaa
open Go.RowKit Go.Sort

/-- A packet whose lists are not too great to go through. -/
structure Small (p : Pk) : Prop where
  deps : p.m.deps.length ≤ 1048576
  text : p.m.text.length ≤ 1048576
  got : p.got.length ≤ 1048576
  xs : p.x.length ≤ 1048576
  cnt : ∀ x ∈ p.x, x.cnt.length ≤ 1048576
theorem size_text {T : ByteArray} {l : List UInt8} (h : T.data.toList = l) : T.size = l.length := by rw [← h, Array.length_toList]; rfl

set_option maxHeartbeats 4000000 in
set_option maxRecDepth 100000 in
theorem wbody_1 (B g : Nat) (w0 w : World) (h : Wr B g w []) (hu : Und B w0 w) (p : Pk) (T : ByteArray) (vd vg vx : Vc) (ht : PkAt w0 p T vd vg vx) (hty : p.typed) (hsm : Small p) (hk : p.kind = 1) :
    Calls Try.prog 36 #[.pointer (some ⟨g, 0, none⟩), .agg (encP p T vd vg vx).toArray] w (WP (errFs (rowP p) p) (putFs (rowP p) p) B g [] w) := by
  have hle := h.le
  have hlt := h.lt
  have hgw : w.heap.size ≠ g := by omega
  have hd : vd.n ≤ 1048576 := by rw [← ht.deps.len]; exact hsm.deps
  have hgn : vg.n ≤ 1048576 := by rw [← ht.got.len]; exact hsm.got
  have hxn : vx.n ≤ 1048576 := by rw [← ht.xs.len]; exact hsm.xs
  have hT : T.size ≤ 1048576 := by rw [size_text ht.text]; exact hsm.text
  have hst : p.stamp < 18446744073709551616 := hty.2.2.1
  have hse : p.sent < 4294967296 := hty.2.2.2.1
  have hho : p.hor < 18446744073709551616 := hty.2.2.2.2.2.1
  have hsq : p.seq < 4294967296 := hty.2.2.2.2.2.2.1
  have hme : p.mem < 18446744073709551616 := hty.2.2.2.2.2.2.2.1
  have hep : p.epoch < 18446744073709551616 := hty.2.2.2.2.2.2.2.2.2.1
  have htx := hty.2.2.2.2.2.2.2.2.2.2
  have HR : Hid (rowP p = [.c, .m]) := Lib.hid (by unfold rowP; rw [hk]; rfl)
  have O0 := Own.new w 35 (encP p T vd vg vx).toArray
  have H0 := h.later ((Grw.refl w).alloc (.cells (encP p T vd vg vx).toArray 35)).below
  have K00 := wrote_alloc (B := B) (g := g) hle (.cells (encP p T vd vg vx).toArray 35)
  have HU := Lib.hid hu
  have HL0 : Hid (([] : List UInt8).length = 0) := Lib.hid rfl
  have HK := Lib.hid hk
  clear h hu hk
  simp only [encP] at O0 H0 K00 ⊢
  go_enter Try.func36, Try.ntmps36
  go_wp2_with fail
  refine (wconf B g _ _ H0 p.conf hty.1 (by rw [HL0.out]; omega)).mono ?_
  rintro e w1 (⟨hc1, rfl, H1, K1⟩ | ⟨hc, rfl, K1⟩)
  case inr =>
    have he : errFs (rowP p) p = errF .c p := by rw [HR.out]; simp only [errFs]; exact orN_left hc
    exact ⟨rfl, .inr ⟨by rw [he]; exact hc, by rw [he]; rfl, K00.trans K1⟩⟩
  have hz1 : Hid (errF .c p = 0) := Lib.hid hc1
  have hb1 : (putF .c p).length ≤ 18000 := putF_length ((errF_iff hty).1 hz1.out)
  have hb1' : (putC p.conf).length ≤ 18000 := hb1
  clear hc1 hb1
  have O1 := O0.wrote K1 hgw (by decide)
  have K01 := K00.trans K1
  obtain ⟨n1, hn1⟩ : ∃ x, ([] ++ putC p.conf).length = x := ⟨_, rfl⟩
  have hm1 : n1 ≤ 18000 := by rw [← hn1]; simp only [List.length_append, List.length_nil]; omega
  have HL1 := Lib.hid hn1
  clear hn1 K1 H0 O0 K00
  have c0 : w1.cell? ⟨w.heap.size, 0, none⟩ = some (.int .i64 1) := by rw [← HK.out]; exact O1.at_ 0 _ rfl
  have c5 : w1.cell? ⟨w.heap.size, 5, none⟩ = some (.int .i64 p.m.f) := O1.at_ 5 _ rfl
  have c6 : w1.cell? ⟨w.heap.size, 6, none⟩ = some (.int .u32 (p.m.q : Int)) := O1.at_ 6 _ rfl
  have c7 : w1.cell? ⟨w.heap.size, 7, none⟩ = some (.int .u64 (p.m.s : Int)) := O1.at_ 7 _ rfl
  have c8 : w1.cell? ⟨w.heap.size, 8, none⟩ = some (.int .i64 p.m.v) := O1.at_ 8 _ rfl
  have c9 : w1.cell? ⟨w.heap.size, 9, none⟩ = some (.slice vd.a vd.n vd.c) := O1.at_ 9 _ rfl
  have c10 : w1.cell? ⟨w.heap.size, 10, none⟩ = some (.string T) := O1.at_ 10 _ rfl
  go_wp2_with fail
  refine (wmessage B g _ w0 _ H1 (HU.out.later K01) p.m T vd ht.text hty.2.1 ht.deps hd hT (by rw [HL1.out]; omega)).mono ?_
  rintro e w2 (⟨hc2, rfl, H2, K2⟩ | ⟨hc, rfl, K2⟩)
  case inr =>
    have he : errFs (rowP p) p = errF .m p := by rw [HR.out]; simp only [errFs]; rw [orN_right (show errF .c p = 0 from hz1.out)]; exact orN_left hc
    exact ⟨rfl, .inr ⟨by rw [he]; exact hc, by rw [he]; rfl, K01.trans K2⟩⟩
  have hz2 : Hid (errF .m p = 0) := Lib.hid hc2
  have hb2 : (putF .m p).length ≤ 18000 := putF_length ((errF_iff hty).1 hz2.out)
  have hb2' : (putM p.m).length ≤ 18000 := hb2
  clear hc2 hb2
  have O2 := O1.wrote K2 hgw (by decide)
  have K02 := K01.trans K2
  obtain ⟨n2, hn2⟩ : ∃ x, ([] ++ putC p.conf ++ putM p.m).length = x := ⟨_, rfl⟩
  have hm2 : n2 ≤ 36000 := by rw [← hn2]; simp only [List.length_append, List.length_nil]; omega
  have HL2 := Lib.hid hn2
  clear hn2 K2 H1 O1 K01
  clear c5 c6 c7 c8 c9 c10
  go_wp2
  go_end0
  refine .inl ⟨by rw [HR.out]; simp only [errFs]; rw [orN_right (show errF .c p = 0 from hz1.out)]; rw [orN_right (show errF .m p = 0 from hz2.out)], rfl, ?_, K02⟩
  have e : [] ++ putFs (rowP p) p = [] ++ putC p.conf ++ putM p.m := by rw [HR.out]; simp only [putFs, putF, List.append_assoc, List.append_nil]
  rw [e]
  exact H2

set_option maxHeartbeats 4000000 in
set_option maxRecDepth 100000 in
theorem wbody_2 (B g : Nat) (w0 w : World) (h : Wr B g w []) (hu : Und B w0 w) (p : Pk) (T : ByteArray) (vd vg vx : Vc) (ht : PkAt w0 p T vd vg vx) (hty : p.typed) (hsm : Small p) (hk : p.kind = 2) :
    Calls Try.prog 36 #[.pointer (some ⟨g, 0, none⟩), .agg (encP p T vd vg vx).toArray] w (WP (errFs (rowP p) p) (putFs (rowP p) p) B g [] w) := by
  have hle := h.le
  have hlt := h.lt
  have hgw : w.heap.size ≠ g := by omega
  have hd : vd.n ≤ 1048576 := by rw [← ht.deps.len]; exact hsm.deps
  have hgn : vg.n ≤ 1048576 := by rw [← ht.got.len]; exact hsm.got
  have hxn : vx.n ≤ 1048576 := by rw [← ht.xs.len]; exact hsm.xs
  have hT : T.size ≤ 1048576 := by rw [size_text ht.text]; exact hsm.text
  have hst : p.stamp < 18446744073709551616 := hty.2.2.1
  have hse : p.sent < 4294967296 := hty.2.2.2.1
  have hho : p.hor < 18446744073709551616 := hty.2.2.2.2.2.1
  have hsq : p.seq < 4294967296 := hty.2.2.2.2.2.2.1
  have hme : p.mem < 18446744073709551616 := hty.2.2.2.2.2.2.2.1
  have hep : p.epoch < 18446744073709551616 := hty.2.2.2.2.2.2.2.2.2.1
  have htx := hty.2.2.2.2.2.2.2.2.2.2
  have HR : Hid (rowP p = [.c, .s, .n, .g, .h]) := Lib.hid (by unfold rowP; rw [hk]; rfl)
  have O0 := Own.new w 35 (encP p T vd vg vx).toArray
  have H0 := h.later ((Grw.refl w).alloc (.cells (encP p T vd vg vx).toArray 35)).below
  have K00 := wrote_alloc (B := B) (g := g) hle (.cells (encP p T vd vg vx).toArray 35)
  have HU := Lib.hid hu
  have HL0 : Hid (([] : List UInt8).length = 0) := Lib.hid rfl
  have HK := Lib.hid hk
  clear h hu hk
  simp only [encP] at O0 H0 K00 ⊢
  go_enter Try.func36, Try.ntmps36
  go_wp2_with fail
  refine (wconf B g _ _ H0 p.conf hty.1 (by rw [HL0.out]; omega)).mono ?_
  rintro e w1 (⟨hc1, rfl, H1, K1⟩ | ⟨hc, rfl, K1⟩)
  case inr =>
    have he : errFs (rowP p) p = errF .c p := by rw [HR.out]; simp only [errFs]; exact orN_left hc
    exact ⟨rfl, .inr ⟨by rw [he]; exact hc, by rw [he]; rfl, K00.trans K1⟩⟩
  have hz1 : Hid (errF .c p = 0) := Lib.hid hc1
  have hb1 : (putF .c p).length ≤ 18000 := putF_length ((errF_iff hty).1 hz1.out)
  have hb1' : (putC p.conf).length ≤ 18000 := hb1
  clear hc1 hb1
  have O1 := O0.wrote K1 hgw (by decide)
  have K01 := K00.trans K1
  obtain ⟨n1, hn1⟩ : ∃ x, ([] ++ putC p.conf).length = x := ⟨_, rfl⟩
  have hm1 : n1 ≤ 18000 := by rw [← hn1]; simp only [List.length_append, List.length_nil]; omega
  have HL1 := Lib.hid hn1
  clear hn1 K1 H0 O0 K00
  have c0 : w1.cell? ⟨w.heap.size, 0, none⟩ = some (.int .i64 2) := by rw [← HK.out]; exact O1.at_ 0 _ rfl
  have c11 : w1.cell? ⟨w.heap.size, 11, none⟩ = some (.int .u64 (p.stamp : Int)) := O1.at_ 11 _ rfl
  go_wp2_with fail
  refine (wput B g _ _ H1 p.stamp 8 8 (by decide) (by decide) (by decide) hst (by rw [HL1.out]; omega)).mono ?_
  rintro e w2 ⟨rfl, H2, K2⟩
  have hb2' : (pb 8 p.stamp).length ≤ 18000 := by rw [pb_length]; decide
  have O2 := O1.wrote K2 hgw (by decide)
  have K02 := K01.trans K2
  obtain ⟨n2, hn2⟩ : ∃ x, ([] ++ putC p.conf ++ pb 8 p.stamp).length = x := ⟨_, rfl⟩
  have hm2 : n2 ≤ 36000 := by rw [← hn2]; simp only [List.length_append, List.length_nil]; omega
  have HL2 := Lib.hid hn2
  clear hn2 K2 H1 O1 K01
  clear c11
  have c12 : w2.cell? ⟨w.heap.size, 12, none⟩ = some (.int .u32 (p.sent : Int)) := O2.at_ 12 _ rfl
  go_wp2_with fail
  refine (wput B g _ _ H2 p.sent 4 4 (by decide) (by decide) (by decide) (by omega) (by rw [HL2.out]; omega)).mono ?_
  rintro e w3 ⟨rfl, H3, K3⟩
  have hb3' : (pb 4 p.sent).length ≤ 18000 := by rw [pb_length]; decide
  have O3 := O2.wrote K3 hgw (by decide)
  have K03 := K02.trans K3
  obtain ⟨n3, hn3⟩ : ∃ x, ([] ++ putC p.conf ++ pb 8 p.stamp ++ pb 4 p.sent).length = x := ⟨_, rfl⟩
  have hm3 : n3 ≤ 54000 := by rw [← hn3]; simp only [List.length_append, List.length_nil]; omega
  have HL3 := Lib.hid hn3
  clear hn3 K3 H2 O2 K02
  clear c12
  have c13 : w3.cell? ⟨w.heap.size, 13, none⟩ = some (.slice vg.a vg.n vg.c) := O3.at_ 13 _ rfl
  go_wp2_with fail
  refine (wvector B g _ w0 _ H3 (HU.out.later K03) vg p.got ht.got (by omega) (by rw [HL3.out]; omega)).mono ?_
  rintro e w4 (⟨hc4, rfl, H4, K4⟩ | ⟨hc, rfl, K4⟩)
  case inr =>
    have he : errFs (rowP p) p = errF .g p := by rw [HR.out]; simp only [errFs]; rw [orN_right (show errF .c p = 0 from hz1.out)]; rw [orN_right (show errF .s p = 0 from rfl)]; rw [orN_right (show errF .n p = 0 from rfl)]; exact orN_left hc
    exact ⟨rfl, .inr ⟨by rw [he]; exact hc, by rw [he]; rfl, K03.trans K4⟩⟩
  have hz4 : Hid (errF .g p = 0) := Lib.hid hc4
  have hb4 : (putF .g p).length ≤ 18000 := putF_length ((errF_iff hty).1 hz4.out)
  have hb4' : (putV p.got).length ≤ 18000 := hb4
  clear hc4 hb4
  have O4 := O3.wrote K4 hgw (by decide)
  have K04 := K03.trans K4
  obtain ⟨n4, hn4⟩ : ∃ x, ([] ++ putC p.conf ++ pb 8 p.stamp ++ pb 4 p.sent ++ putV p.got).length = x := ⟨_, rfl⟩
  have hm4 : n4 ≤ 72000 := by rw [← hn4]; simp only [List.length_append, List.length_nil]; omega
  have HL4 := Lib.hid hn4
  clear hn4 K4 H3 O3 K03
  clear c13
  have c14 : w4.cell? ⟨w.heap.size, 14, none⟩ = some (.int .u64 (p.hor : Int)) := O4.at_ 14 _ rfl
  go_wp2_with fail
  refine (wput B g _ _ H4 p.hor 8 8 (by decide) (by decide) (by decide) hho (by rw [HL4.out]; omega)).mono ?_
  rintro e w5 ⟨rfl, H5, K5⟩
  have hb5' : (pb 8 p.hor).length ≤ 18000 := by rw [pb_length]; decide
  have O5 := O4.wrote K5 hgw (by decide)
  have K05 := K04.trans K5
  obtain ⟨n5, hn5⟩ : ∃ x, ([] ++ putC p.conf ++ pb 8 p.stamp ++ pb 4 p.sent ++ putV p.got ++ pb 8 p.hor).length = x := ⟨_, rfl⟩
  have hm5 : n5 ≤ 90000 := by rw [← hn5]; simp only [List.length_append, List.length_nil]; omega
  have HL5 := Lib.hid hn5
  clear hn5 K5 H4 O4 K04
  clear c14
  go_wp2
  go_end0
  refine .inl ⟨by rw [HR.out]; simp only [errFs]; rw [orN_right (show errF .c p = 0 from hz1.out)]; rw [orN_right (show errF .s p = 0 from rfl)]; rw [orN_right (show errF .n p = 0 from rfl)]; rw [orN_right (show errF .g p = 0 from hz4.out)]; rw [orN_right (show errF .h p = 0 from rfl)], rfl, ?_, K05⟩
  have e : [] ++ putFs (rowP p) p = [] ++ putC p.conf ++ pb 8 p.stamp ++ pb 4 p.sent ++ putV p.got ++ pb 8 p.hor := by rw [HR.out]; simp only [putFs, putF, List.append_assoc, List.append_nil]
  rw [e]
  exact H5

set_option maxHeartbeats 4000000 in
set_option maxRecDepth 100000 in
theorem wbody_3 (B g : Nat) (w0 w : World) (h : Wr B g w []) (hu : Und B w0 w) (p : Pk) (T : ByteArray) (vd vg vx : Vc) (ht : PkAt w0 p T vd vg vx) (hty : p.typed) (hsm : Small p) (hk : p.kind = 3) :
    Calls Try.prog 36 #[.pointer (some ⟨g, 0, none⟩), .agg (encP p T vd vg vx).toArray] w (WP (errFs (rowP p) p) (putFs (rowP p) p) B g [] w) := by
  have hle := h.le
  have hlt := h.lt
  have hgw : w.heap.size ≠ g := by omega
  have hd : vd.n ≤ 1048576 := by rw [← ht.deps.len]; exact hsm.deps
  have hgn : vg.n ≤ 1048576 := by rw [← ht.got.len]; exact hsm.got
  have hxn : vx.n ≤ 1048576 := by rw [← ht.xs.len]; exact hsm.xs
  have hT : T.size ≤ 1048576 := by rw [size_text ht.text]; exact hsm.text
  have hst : p.stamp < 18446744073709551616 := hty.2.2.1
  have hse : p.sent < 4294967296 := hty.2.2.2.1
  have hho : p.hor < 18446744073709551616 := hty.2.2.2.2.2.1
  have hsq : p.seq < 4294967296 := hty.2.2.2.2.2.2.1
  have hme : p.mem < 18446744073709551616 := hty.2.2.2.2.2.2.2.1
  have hep : p.epoch < 18446744073709551616 := hty.2.2.2.2.2.2.2.2.2.1
  have htx := hty.2.2.2.2.2.2.2.2.2.2
  have HR : Hid (rowP p = [.c, .w, .q]) := Lib.hid (by unfold rowP; rw [hk]; rfl)
  have O0 := Own.new w 35 (encP p T vd vg vx).toArray
  have H0 := h.later ((Grw.refl w).alloc (.cells (encP p T vd vg vx).toArray 35)).below
  have K00 := wrote_alloc (B := B) (g := g) hle (.cells (encP p T vd vg vx).toArray 35)
  have HU := Lib.hid hu
  have HL0 : Hid (([] : List UInt8).length = 0) := Lib.hid rfl
  have HK := Lib.hid hk
  clear h hu hk
  simp only [encP] at O0 H0 K00 ⊢
  go_enter Try.func36, Try.ntmps36
  go_wp2_with fail
  refine (wconf B g _ _ H0 p.conf hty.1 (by rw [HL0.out]; omega)).mono ?_
  rintro e w1 (⟨hc1, rfl, H1, K1⟩ | ⟨hc, rfl, K1⟩)
  case inr =>
    have he : errFs (rowP p) p = errF .c p := by rw [HR.out]; simp only [errFs]; exact orN_left hc
    exact ⟨rfl, .inr ⟨by rw [he]; exact hc, by rw [he]; rfl, K00.trans K1⟩⟩
  have hz1 : Hid (errF .c p = 0) := Lib.hid hc1
  have hb1 : (putF .c p).length ≤ 18000 := putF_length ((errF_iff hty).1 hz1.out)
  have hb1' : (putC p.conf).length ≤ 18000 := hb1
  clear hc1 hb1
  have O1 := O0.wrote K1 hgw (by decide)
  have K01 := K00.trans K1
  obtain ⟨n1, hn1⟩ : ∃ x, ([] ++ putC p.conf).length = x := ⟨_, rfl⟩
  have hm1 : n1 ≤ 18000 := by rw [← hn1]; simp only [List.length_append, List.length_nil]; omega
  have HL1 := Lib.hid hn1
  clear hn1 K1 H0 O0 K00
  have c0 : w1.cell? ⟨w.heap.size, 0, none⟩ = some (.int .i64 3) := by rw [← HK.out]; exact O1.at_ 0 _ rfl
  have c15 : w1.cell? ⟨w.heap.size, 15, none⟩ = some (.int .i64 p.whom) := O1.at_ 15 _ rfl
  go_wp2_with fail
  refine (wprocess B g _ _ H1 p.whom (by rw [HL1.out]; omega)).mono ?_
  rintro e w2 (⟨hc2, rfl, H2, K2⟩ | ⟨hc, rfl, K2⟩)
  case inr =>
    have he : errFs (rowP p) p = errF .w p := by rw [HR.out]; simp only [errFs]; rw [orN_right (show errF .c p = 0 from hz1.out)]; exact orN_left hc
    exact ⟨rfl, .inr ⟨by rw [he]; exact hc, by rw [he]; rfl, K01.trans K2⟩⟩
  have hz2 : Hid (errF .w p = 0) := Lib.hid hc2
  have hb2 : (putF .w p).length ≤ 18000 := putF_length ((errF_iff hty).1 hz2.out)
  have hb2' : (putP p.whom).length ≤ 18000 := hb2
  clear hc2 hb2
  have O2 := O1.wrote K2 hgw (by decide)
  have K02 := K01.trans K2
  obtain ⟨n2, hn2⟩ : ∃ x, ([] ++ putC p.conf ++ putP p.whom).length = x := ⟨_, rfl⟩
  have hm2 : n2 ≤ 36000 := by rw [← hn2]; simp only [List.length_append, List.length_nil]; omega
  have HL2 := Lib.hid hn2
  clear hn2 K2 H1 O1 K01
  clear c15
  have c16 : w2.cell? ⟨w.heap.size, 16, none⟩ = some (.int .u32 (p.seq : Int)) := O2.at_ 16 _ rfl
  go_wp2_with fail
  refine (wput B g _ _ H2 p.seq 4 4 (by decide) (by decide) (by decide) (by omega) (by rw [HL2.out]; omega)).mono ?_
  rintro e w3 ⟨rfl, H3, K3⟩
  have hb3' : (pb 4 p.seq).length ≤ 18000 := by rw [pb_length]; decide
  have O3 := O2.wrote K3 hgw (by decide)
  have K03 := K02.trans K3
  obtain ⟨n3, hn3⟩ : ∃ x, ([] ++ putC p.conf ++ putP p.whom ++ pb 4 p.seq).length = x := ⟨_, rfl⟩
  have hm3 : n3 ≤ 54000 := by rw [← hn3]; simp only [List.length_append, List.length_nil]; omega
  have HL3 := Lib.hid hn3
  clear hn3 K3 H2 O2 K02
  clear c16
  go_wp2
  go_end0
  refine .inl ⟨by rw [HR.out]; simp only [errFs]; rw [orN_right (show errF .c p = 0 from hz1.out)]; rw [orN_right (show errF .w p = 0 from hz2.out)]; rw [orN_right (show errF .q p = 0 from rfl)], rfl, ?_, K03⟩
  have e : [] ++ putFs (rowP p) p = [] ++ putC p.conf ++ putP p.whom ++ pb 4 p.seq := by rw [HR.out]; simp only [putFs, putF, List.append_assoc, List.append_nil]
  rw [e]
  exact H3

set_option maxHeartbeats 4000000 in
set_option maxRecDepth 100000 in
theorem wbody_4 (B g : Nat) (w0 w : World) (h : Wr B g w []) (hu : Und B w0 w) (p : Pk) (T : ByteArray) (vd vg vx : Vc) (ht : PkAt w0 p T vd vg vx) (hty : p.typed) (hsm : Small p) (hk : p.kind = 4) :
    Calls Try.prog 36 #[.pointer (some ⟨g, 0, none⟩), .agg (encP p T vd vg vx).toArray] w (WP (errFs (rowP p) p) (putFs (rowP p) p) B g [] w) := by
  have hle := h.le
  have hlt := h.lt
  have hgw : w.heap.size ≠ g := by omega
  have hd : vd.n ≤ 1048576 := by rw [← ht.deps.len]; exact hsm.deps
  have hgn : vg.n ≤ 1048576 := by rw [← ht.got.len]; exact hsm.got
  have hxn : vx.n ≤ 1048576 := by rw [← ht.xs.len]; exact hsm.xs
  have hT : T.size ≤ 1048576 := by rw [size_text ht.text]; exact hsm.text
  have hst : p.stamp < 18446744073709551616 := hty.2.2.1
  have hse : p.sent < 4294967296 := hty.2.2.2.1
  have hho : p.hor < 18446744073709551616 := hty.2.2.2.2.2.1
  have hsq : p.seq < 4294967296 := hty.2.2.2.2.2.2.1
  have hme : p.mem < 18446744073709551616 := hty.2.2.2.2.2.2.2.1
  have hep : p.epoch < 18446744073709551616 := hty.2.2.2.2.2.2.2.2.2.1
  have htx := hty.2.2.2.2.2.2.2.2.2.2
  have HR : Hid (rowP p = [.c, .p, .e, .b]) := Lib.hid (by unfold rowP; rw [hk]; rfl)
  have O0 := Own.new w 35 (encP p T vd vg vx).toArray
  have H0 := h.later ((Grw.refl w).alloc (.cells (encP p T vd vg vx).toArray 35)).below
  have K00 := wrote_alloc (B := B) (g := g) hle (.cells (encP p T vd vg vx).toArray 35)
  have HU := Lib.hid hu
  have HL0 : Hid (([] : List UInt8).length = 0) := Lib.hid rfl
  have HK := Lib.hid hk
  clear h hu hk
  simp only [encP] at O0 H0 K00 ⊢
  go_enter Try.func36, Try.ntmps36
  go_wp2_with fail
  refine (wconf B g _ _ H0 p.conf hty.1 (by rw [HL0.out]; omega)).mono ?_
  rintro e w1 (⟨hc1, rfl, H1, K1⟩ | ⟨hc, rfl, K1⟩)
  case inr =>
    have he : errFs (rowP p) p = errF .c p := by rw [HR.out]; simp only [errFs]; exact orN_left hc
    exact ⟨rfl, .inr ⟨by rw [he]; exact hc, by rw [he]; rfl, K00.trans K1⟩⟩
  have hz1 : Hid (errF .c p = 0) := Lib.hid hc1
  have hb1 : (putF .c p).length ≤ 18000 := putF_length ((errF_iff hty).1 hz1.out)
  have hb1' : (putC p.conf).length ≤ 18000 := hb1
  clear hc1 hb1
  have O1 := O0.wrote K1 hgw (by decide)
  have K01 := K00.trans K1
  obtain ⟨n1, hn1⟩ : ∃ x, ([] ++ putC p.conf).length = x := ⟨_, rfl⟩
  have hm1 : n1 ≤ 18000 := by rw [← hn1]; simp only [List.length_append, List.length_nil]; omega
  have HL1 := Lib.hid hn1
  clear hn1 K1 H0 O0 K00
  have c0 : w1.cell? ⟨w.heap.size, 0, none⟩ = some (.int .i64 4) := by rw [← HK.out]; exact O1.at_ 0 _ rfl
  have c18 : w1.cell? ⟨w.heap.size, 18, none⟩ = some (.int .u64 (p.prom.e : Int)) := O1.at_ 18 _ rfl
  have c19 : w1.cell? ⟨w.heap.size, 19, none⟩ = some (.int .i64 p.prom.r) := O1.at_ 19 _ rfl
  go_wp2_with fail
  refine (wconf B g _ _ H1 p.prom hty.2.2.2.2.2.2.2.2.1 (by rw [HL1.out]; omega)).mono ?_
  rintro e w2 (⟨hc2, rfl, H2, K2⟩ | ⟨hc, rfl, K2⟩)
  case inr =>
    have he : errFs (rowP p) p = errF .p p := by rw [HR.out]; simp only [errFs]; rw [orN_right (show errF .c p = 0 from hz1.out)]; exact orN_left hc
    exact ⟨rfl, .inr ⟨by rw [he]; exact hc, by rw [he]; rfl, K01.trans K2⟩⟩
  have hz2 : Hid (errF .p p = 0) := Lib.hid hc2
  have hb2 : (putF .p p).length ≤ 18000 := putF_length ((errF_iff hty).1 hz2.out)
  have hb2' : (putC p.prom).length ≤ 18000 := hb2
  clear hc2 hb2
  have O2 := O1.wrote K2 hgw (by decide)
  have K02 := K01.trans K2
  obtain ⟨n2, hn2⟩ : ∃ x, ([] ++ putC p.conf ++ putC p.prom).length = x := ⟨_, rfl⟩
  have hm2 : n2 ≤ 36000 := by rw [← hn2]; simp only [List.length_append, List.length_nil]; omega
  have HL2 := Lib.hid hn2
  clear hn2 K2 H1 O1 K01
  clear c18 c19
  have c20 : w2.cell? ⟨w.heap.size, 20, none⟩ = some (.int .u64 (p.epoch : Int)) := O2.at_ 20 _ rfl
  go_wp2_with fail
  refine (wput B g _ _ H2 p.epoch 8 8 (by decide) (by decide) (by decide) hep (by rw [HL2.out]; omega)).mono ?_
  rintro e w3 ⟨rfl, H3, K3⟩
  have hb3' : (pb 8 p.epoch).length ≤ 18000 := by rw [pb_length]; decide
  have O3 := O2.wrote K3 hgw (by decide)
  have K03 := K02.trans K3
  obtain ⟨n3, hn3⟩ : ∃ x, ([] ++ putC p.conf ++ putC p.prom ++ pb 8 p.epoch).length = x := ⟨_, rfl⟩
  have hm3 : n3 ≤ 54000 := by rw [← hn3]; simp only [List.length_append, List.length_nil]; omega
  have HL3 := Lib.hid hn3
  clear hn3 K3 H2 O2 K02
  clear c20
  have c17 : w3.cell? ⟨w.heap.size, 17, none⟩ = some (.int .u64 (p.mem : Int)) := O3.at_ 17 _ rfl
  go_wp2_with fail
  refine (wput B g _ _ H3 p.mem 8 8 (by decide) (by decide) (by decide) hme (by rw [HL3.out]; omega)).mono ?_
  rintro e w4 ⟨rfl, H4, K4⟩
  have hb4' : (pb 8 p.mem).length ≤ 18000 := by rw [pb_length]; decide
  have O4 := O3.wrote K4 hgw (by decide)
  have K04 := K03.trans K4
  obtain ⟨n4, hn4⟩ : ∃ x, ([] ++ putC p.conf ++ putC p.prom ++ pb 8 p.epoch ++ pb 8 p.mem).length = x := ⟨_, rfl⟩
  have hm4 : n4 ≤ 72000 := by rw [← hn4]; simp only [List.length_append, List.length_nil]; omega
  have HL4 := Lib.hid hn4
  clear hn4 K4 H3 O3 K03
  clear c17
  go_wp2
  go_end0
  refine .inl ⟨by rw [HR.out]; simp only [errFs]; rw [orN_right (show errF .c p = 0 from hz1.out)]; rw [orN_right (show errF .p p = 0 from hz2.out)]; rw [orN_right (show errF .e p = 0 from rfl)]; rw [orN_right (show errF .b p = 0 from rfl)], rfl, ?_, K04⟩
  have e : [] ++ putFs (rowP p) p = [] ++ putC p.conf ++ putC p.prom ++ pb 8 p.epoch ++ pb 8 p.mem := by rw [HR.out]; simp only [putFs, putF, List.append_assoc, List.append_nil]
  rw [e]
  exact H4

set_option maxHeartbeats 4000000 in
set_option maxRecDepth 100000 in
theorem wbody_5 (B g : Nat) (w0 w : World) (h : Wr B g w []) (hu : Und B w0 w) (p : Pk) (T : ByteArray) (vd vg vx : Vc) (ht : PkAt w0 p T vd vg vx) (hty : p.typed) (hsm : Small p) (hk : p.kind = 5) :
    Calls Try.prog 36 #[.pointer (some ⟨g, 0, none⟩), .agg (encP p T vd vg vx).toArray] w (WP (errFs (rowP p) p) (putFs (rowP p) p) B g [] w) := by
  have hle := h.le
  have hlt := h.lt
  have hgw : w.heap.size ≠ g := by omega
  have hd : vd.n ≤ 1048576 := by rw [← ht.deps.len]; exact hsm.deps
  have hgn : vg.n ≤ 1048576 := by rw [← ht.got.len]; exact hsm.got
  have hxn : vx.n ≤ 1048576 := by rw [← ht.xs.len]; exact hsm.xs
  have hT : T.size ≤ 1048576 := by rw [size_text ht.text]; exact hsm.text
  have hst : p.stamp < 18446744073709551616 := hty.2.2.1
  have hse : p.sent < 4294967296 := hty.2.2.2.1
  have hho : p.hor < 18446744073709551616 := hty.2.2.2.2.2.1
  have hsq : p.seq < 4294967296 := hty.2.2.2.2.2.2.1
  have hme : p.mem < 18446744073709551616 := hty.2.2.2.2.2.2.2.1
  have hep : p.epoch < 18446744073709551616 := hty.2.2.2.2.2.2.2.2.2.1
  have htx := hty.2.2.2.2.2.2.2.2.2.2
  have HR : Hid (rowP p = [.c, .b]) := Lib.hid (by unfold rowP; rw [hk]; rfl)
  have O0 := Own.new w 35 (encP p T vd vg vx).toArray
  have H0 := h.later ((Grw.refl w).alloc (.cells (encP p T vd vg vx).toArray 35)).below
  have K00 := wrote_alloc (B := B) (g := g) hle (.cells (encP p T vd vg vx).toArray 35)
  have HU := Lib.hid hu
  have HL0 : Hid (([] : List UInt8).length = 0) := Lib.hid rfl
  have HK := Lib.hid hk
  clear h hu hk
  simp only [encP] at O0 H0 K00 ⊢
  go_enter Try.func36, Try.ntmps36
  go_wp2_with fail
  refine (wconf B g _ _ H0 p.conf hty.1 (by rw [HL0.out]; omega)).mono ?_
  rintro e w1 (⟨hc1, rfl, H1, K1⟩ | ⟨hc, rfl, K1⟩)
  case inr =>
    have he : errFs (rowP p) p = errF .c p := by rw [HR.out]; simp only [errFs]; exact orN_left hc
    exact ⟨rfl, .inr ⟨by rw [he]; exact hc, by rw [he]; rfl, K00.trans K1⟩⟩
  have hz1 : Hid (errF .c p = 0) := Lib.hid hc1
  have hb1 : (putF .c p).length ≤ 18000 := putF_length ((errF_iff hty).1 hz1.out)
  have hb1' : (putC p.conf).length ≤ 18000 := hb1
  clear hc1 hb1
  have O1 := O0.wrote K1 hgw (by decide)
  have K01 := K00.trans K1
  obtain ⟨n1, hn1⟩ : ∃ x, ([] ++ putC p.conf).length = x := ⟨_, rfl⟩
  have hm1 : n1 ≤ 18000 := by rw [← hn1]; simp only [List.length_append, List.length_nil]; omega
  have HL1 := Lib.hid hn1
  clear hn1 K1 H0 O0 K00
  have c0 : w1.cell? ⟨w.heap.size, 0, none⟩ = some (.int .i64 5) := by rw [← HK.out]; exact O1.at_ 0 _ rfl
  have c17 : w1.cell? ⟨w.heap.size, 17, none⟩ = some (.int .u64 (p.mem : Int)) := O1.at_ 17 _ rfl
  go_wp2_with fail
  refine (wput B g _ _ H1 p.mem 8 8 (by decide) (by decide) (by decide) hme (by rw [HL1.out]; omega)).mono ?_
  rintro e w2 ⟨rfl, H2, K2⟩
  have hb2' : (pb 8 p.mem).length ≤ 18000 := by rw [pb_length]; decide
  have O2 := O1.wrote K2 hgw (by decide)
  have K02 := K01.trans K2
  obtain ⟨n2, hn2⟩ : ∃ x, ([] ++ putC p.conf ++ pb 8 p.mem).length = x := ⟨_, rfl⟩
  have hm2 : n2 ≤ 36000 := by rw [← hn2]; simp only [List.length_append, List.length_nil]; omega
  have HL2 := Lib.hid hn2
  clear hn2 K2 H1 O1 K01
  clear c17
  go_wp2
  go_end0
  refine .inl ⟨by rw [HR.out]; simp only [errFs]; rw [orN_right (show errF .c p = 0 from hz1.out)]; rw [orN_right (show errF .b p = 0 from rfl)], rfl, ?_, K02⟩
  have e : [] ++ putFs (rowP p) p = [] ++ putC p.conf ++ pb 8 p.mem := by rw [HR.out]; simp only [putFs, putF, List.append_assoc, List.append_nil]
  rw [e]
  exact H2

set_option maxHeartbeats 4000000 in
set_option maxRecDepth 100000 in
theorem wbody_6 (B g : Nat) (w0 w : World) (h : Wr B g w []) (hu : Und B w0 w) (p : Pk) (T : ByteArray) (vd vg vx : Vc) (ht : PkAt w0 p T vd vg vx) (hty : p.typed) (hsm : Small p) (hk : p.kind = 6) :
    Calls Try.prog 36 #[.pointer (some ⟨g, 0, none⟩), .agg (encP p T vd vg vx).toArray] w (WP (errFs (rowP p) p) (putFs (rowP p) p) B g [] w) := by
  have hle := h.le
  have hlt := h.lt
  have hgw : w.heap.size ≠ g := by omega
  have hd : vd.n ≤ 1048576 := by rw [← ht.deps.len]; exact hsm.deps
  have hgn : vg.n ≤ 1048576 := by rw [← ht.got.len]; exact hsm.got
  have hxn : vx.n ≤ 1048576 := by rw [← ht.xs.len]; exact hsm.xs
  have hT : T.size ≤ 1048576 := by rw [size_text ht.text]; exact hsm.text
  have hst : p.stamp < 18446744073709551616 := hty.2.2.1
  have hse : p.sent < 4294967296 := hty.2.2.2.1
  have hho : p.hor < 18446744073709551616 := hty.2.2.2.2.2.1
  have hsq : p.seq < 4294967296 := hty.2.2.2.2.2.2.1
  have hme : p.mem < 18446744073709551616 := hty.2.2.2.2.2.2.2.1
  have hep : p.epoch < 18446744073709551616 := hty.2.2.2.2.2.2.2.2.2.1
  have htx := hty.2.2.2.2.2.2.2.2.2.2
  have HR : Hid (rowP p = [.c, .x]) := Lib.hid (by unfold rowP; rw [hk]; rfl)
  have O0 := Own.new w 35 (encP p T vd vg vx).toArray
  have H0 := h.later ((Grw.refl w).alloc (.cells (encP p T vd vg vx).toArray 35)).below
  have K00 := wrote_alloc (B := B) (g := g) hle (.cells (encP p T vd vg vx).toArray 35)
  have HU := Lib.hid hu
  have HL0 : Hid (([] : List UInt8).length = 0) := Lib.hid rfl
  have HK := Lib.hid hk
  clear h hu hk
  simp only [encP] at O0 H0 K00 ⊢
  go_enter Try.func36, Try.ntmps36
  go_wp2_with fail
  refine (wconf B g _ _ H0 p.conf hty.1 (by rw [HL0.out]; omega)).mono ?_
  rintro e w1 (⟨hc1, rfl, H1, K1⟩ | ⟨hc, rfl, K1⟩)
  case inr =>
    have he : errFs (rowP p) p = errF .c p := by rw [HR.out]; simp only [errFs]; exact orN_left hc
    exact ⟨rfl, .inr ⟨by rw [he]; exact hc, by rw [he]; rfl, K00.trans K1⟩⟩
  have hz1 : Hid (errF .c p = 0) := Lib.hid hc1
  have hb1 : (putF .c p).length ≤ 18000 := putF_length ((errF_iff hty).1 hz1.out)
  have hb1' : (putC p.conf).length ≤ 18000 := hb1
  clear hc1 hb1
  have O1 := O0.wrote K1 hgw (by decide)
  have K01 := K00.trans K1
  obtain ⟨n1, hn1⟩ : ∃ x, ([] ++ putC p.conf).length = x := ⟨_, rfl⟩
  have hm1 : n1 ≤ 18000 := by rw [← hn1]; simp only [List.length_append, List.length_nil]; omega
  have HL1 := Lib.hid hn1
  clear hn1 K1 H0 O0 K00
  have c0 : w1.cell? ⟨w.heap.size, 0, none⟩ = some (.int .i64 6) := by rw [← HK.out]; exact O1.at_ 0 _ rfl
  have c21 : w1.cell? ⟨w.heap.size, 21, none⟩ = some (.slice vx.a vx.n vx.c) := O1.at_ 21 _ rfl
  go_wp2_with fail
  refine (wonly B g _ w0 _ H1 (HU.out.later K01) vx p.x ht.xs htx hsm.cnt (by omega) (by rw [HL1.out]; omega)).mono ?_
  rintro e w2 (⟨hc2, rfl, H2, K2⟩ | ⟨hc, rfl, K2⟩)
  case inr =>
    have he : errFs (rowP p) p = errF .x p := by rw [HR.out]; simp only [errFs]; rw [orN_right (show errF .c p = 0 from hz1.out)]; exact orN_left hc
    exact ⟨rfl, .inr ⟨by rw [he]; exact hc, by rw [he]; rfl, K01.trans K2⟩⟩
  have hz2 : Hid (errF .x p = 0) := Lib.hid hc2
  have hb2 : (putF .x p).length ≤ 18000 := putF_length ((errF_iff hty).1 hz2.out)
  have hb2' : (putXs p.x).length ≤ 18000 := hb2
  clear hc2 hb2
  have O2 := O1.wrote K2 hgw (by decide)
  have K02 := K01.trans K2
  obtain ⟨n2, hn2⟩ : ∃ x, ([] ++ putC p.conf ++ putXs p.x).length = x := ⟨_, rfl⟩
  have hm2 : n2 ≤ 36000 := by rw [← hn2]; simp only [List.length_append, List.length_nil]; omega
  have HL2 := Lib.hid hn2
  clear hn2 K2 H1 O1 K01
  clear c21
  go_wp2
  go_end0
  refine .inl ⟨by rw [HR.out]; simp only [errFs]; rw [orN_right (show errF .c p = 0 from hz1.out)]; rw [orN_right (show errF .x p = 0 from hz2.out)], rfl, ?_, K02⟩
  have e : [] ++ putFs (rowP p) p = [] ++ putC p.conf ++ putXs p.x := by rw [HR.out]; simp only [putFs, putF, List.append_assoc, List.append_nil]
  rw [e]
  exact H2

set_option maxHeartbeats 4000000 in
set_option maxRecDepth 100000 in
theorem wbody_7 (B g : Nat) (w0 w : World) (h : Wr B g w []) (hu : Und B w0 w) (p : Pk) (T : ByteArray) (vd vg vx : Vc) (ht : PkAt w0 p T vd vg vx) (hty : p.typed) (hsm : Small p) (hk : p.kind = 7) :
    Calls Try.prog 36 #[.pointer (some ⟨g, 0, none⟩), .agg (encP p T vd vg vx).toArray] w (WP (errFs (rowP p) p) (putFs (rowP p) p) B g [] w) := by
  have hle := h.le
  have hlt := h.lt
  have hgw : w.heap.size ≠ g := by omega
  have hd : vd.n ≤ 1048576 := by rw [← ht.deps.len]; exact hsm.deps
  have hgn : vg.n ≤ 1048576 := by rw [← ht.got.len]; exact hsm.got
  have hxn : vx.n ≤ 1048576 := by rw [← ht.xs.len]; exact hsm.xs
  have hT : T.size ≤ 1048576 := by rw [size_text ht.text]; exact hsm.text
  have hst : p.stamp < 18446744073709551616 := hty.2.2.1
  have hse : p.sent < 4294967296 := hty.2.2.2.1
  have hho : p.hor < 18446744073709551616 := hty.2.2.2.2.2.1
  have hsq : p.seq < 4294967296 := hty.2.2.2.2.2.2.1
  have hme : p.mem < 18446744073709551616 := hty.2.2.2.2.2.2.2.1
  have hep : p.epoch < 18446744073709551616 := hty.2.2.2.2.2.2.2.2.2.1
  have htx := hty.2.2.2.2.2.2.2.2.2.2
  have HR : Hid (rowP p = [.c, .b, .l]) := Lib.hid (by unfold rowP; rw [hk]; rfl)
  have O0 := Own.new w 35 (encP p T vd vg vx).toArray
  have H0 := h.later ((Grw.refl w).alloc (.cells (encP p T vd vg vx).toArray 35)).below
  have K00 := wrote_alloc (B := B) (g := g) hle (.cells (encP p T vd vg vx).toArray 35)
  have HU := Lib.hid hu
  have HL0 : Hid (([] : List UInt8).length = 0) := Lib.hid rfl
  have HK := Lib.hid hk
  clear h hu hk
  simp only [encP] at O0 H0 K00 ⊢
  go_enter Try.func36, Try.ntmps36
  go_wp2_with fail
  refine (wconf B g _ _ H0 p.conf hty.1 (by rw [HL0.out]; omega)).mono ?_
  rintro e w1 (⟨hc1, rfl, H1, K1⟩ | ⟨hc, rfl, K1⟩)
  case inr =>
    have he : errFs (rowP p) p = errF .c p := by rw [HR.out]; simp only [errFs]; exact orN_left hc
    exact ⟨rfl, .inr ⟨by rw [he]; exact hc, by rw [he]; rfl, K00.trans K1⟩⟩
  have hz1 : Hid (errF .c p = 0) := Lib.hid hc1
  have hb1 : (putF .c p).length ≤ 18000 := putF_length ((errF_iff hty).1 hz1.out)
  have hb1' : (putC p.conf).length ≤ 18000 := hb1
  clear hc1 hb1
  have O1 := O0.wrote K1 hgw (by decide)
  have K01 := K00.trans K1
  obtain ⟨n1, hn1⟩ : ∃ x, ([] ++ putC p.conf).length = x := ⟨_, rfl⟩
  have hm1 : n1 ≤ 18000 := by rw [← hn1]; simp only [List.length_append, List.length_nil]; omega
  have HL1 := Lib.hid hn1
  clear hn1 K1 H0 O0 K00
  have c0 : w1.cell? ⟨w.heap.size, 0, none⟩ = some (.int .i64 7) := by rw [← HK.out]; exact O1.at_ 0 _ rfl
  have c17 : w1.cell? ⟨w.heap.size, 17, none⟩ = some (.int .u64 (p.mem : Int)) := O1.at_ 17 _ rfl
  go_wp2_with fail
  refine (wput B g _ _ H1 p.mem 8 8 (by decide) (by decide) (by decide) hme (by rw [HL1.out]; omega)).mono ?_
  rintro e w2 ⟨rfl, H2, K2⟩
  have hb2' : (pb 8 p.mem).length ≤ 18000 := by rw [pb_length]; decide
  have O2 := O1.wrote K2 hgw (by decide)
  have K02 := K01.trans K2
  obtain ⟨n2, hn2⟩ : ∃ x, ([] ++ putC p.conf ++ pb 8 p.mem).length = x := ⟨_, rfl⟩
  have hm2 : n2 ≤ 36000 := by rw [← hn2]; simp only [List.length_append, List.length_nil]; omega
  have HL2 := Lib.hid hn2
  clear hn2 K2 H1 O1 K01
  clear c17
  have c21 : w2.cell? ⟨w.heap.size, 21, none⟩ = some (.slice vx.a vx.n vx.c) := O2.at_ 21 _ rfl
  go_wp2_with fail
  refine (wexchanges B g _ w0 _ H2 (HU.out.later K02) vx p.x ht.xs htx hsm.cnt (by omega) (by rw [HL2.out]; omega)).mono ?_
  rintro e w3 (⟨hc3, rfl, H3, K3⟩ | ⟨hc, rfl, K3⟩)
  case inr =>
    have he : errFs (rowP p) p = errF .l p := by rw [HR.out]; simp only [errFs]; rw [orN_right (show errF .c p = 0 from hz1.out)]; rw [orN_right (show errF .b p = 0 from rfl)]; exact orN_left hc
    exact ⟨rfl, .inr ⟨by rw [he]; exact hc, by rw [he]; rfl, K02.trans K3⟩⟩
  have hz3 : Hid (errF .l p = 0) := Lib.hid hc3
  have hb3 : (putF .l p).length ≤ 18000 := putF_length ((errF_iff hty).1 hz3.out)
  have hb3' : (putL p.x).length ≤ 18000 := hb3
  clear hc3 hb3
  have O3 := O2.wrote K3 hgw (by decide)
  have K03 := K02.trans K3
  obtain ⟨n3, hn3⟩ : ∃ x, ([] ++ putC p.conf ++ pb 8 p.mem ++ putL p.x).length = x := ⟨_, rfl⟩
  have hm3 : n3 ≤ 54000 := by rw [← hn3]; simp only [List.length_append, List.length_nil]; omega
  have HL3 := Lib.hid hn3
  clear hn3 K3 H2 O2 K02
  clear c21
  go_wp2
  go_end0
  refine .inl ⟨by rw [HR.out]; simp only [errFs]; rw [orN_right (show errF .c p = 0 from hz1.out)]; rw [orN_right (show errF .b p = 0 from rfl)]; rw [orN_right (show errF .l p = 0 from hz3.out)], rfl, ?_, K03⟩
  have e : [] ++ putFs (rowP p) p = [] ++ putC p.conf ++ pb 8 p.mem ++ putL p.x := by rw [HR.out]; simp only [putFs, putF, List.append_assoc, List.append_nil]
  rw [e]
  exact H3

set_option maxHeartbeats 4000000 in
set_option maxRecDepth 100000 in
theorem wbody_8 (B g : Nat) (w0 w : World) (h : Wr B g w []) (hu : Und B w0 w) (p : Pk) (T : ByteArray) (vd vg vx : Vc) (ht : PkAt w0 p T vd vg vx) (hty : p.typed) (hsm : Small p) (hk : p.kind = 8) :
    Calls Try.prog 36 #[.pointer (some ⟨g, 0, none⟩), .agg (encP p T vd vg vx).toArray] w (WP (errFs (rowP p) p) (putFs (rowP p) p) B g [] w) := by
  have hle := h.le
  have hlt := h.lt
  have hgw : w.heap.size ≠ g := by omega
  have hd : vd.n ≤ 1048576 := by rw [← ht.deps.len]; exact hsm.deps
  have hgn : vg.n ≤ 1048576 := by rw [← ht.got.len]; exact hsm.got
  have hxn : vx.n ≤ 1048576 := by rw [← ht.xs.len]; exact hsm.xs
  have hT : T.size ≤ 1048576 := by rw [size_text ht.text]; exact hsm.text
  have hst : p.stamp < 18446744073709551616 := hty.2.2.1
  have hse : p.sent < 4294967296 := hty.2.2.2.1
  have hho : p.hor < 18446744073709551616 := hty.2.2.2.2.2.1
  have hsq : p.seq < 4294967296 := hty.2.2.2.2.2.2.1
  have hme : p.mem < 18446744073709551616 := hty.2.2.2.2.2.2.2.1
  have hep : p.epoch < 18446744073709551616 := hty.2.2.2.2.2.2.2.2.2.1
  have htx := hty.2.2.2.2.2.2.2.2.2.2
  have HR : Hid (rowP p = [.c, .w, .q]) := Lib.hid (by unfold rowP; rw [hk]; rfl)
  have O0 := Own.new w 35 (encP p T vd vg vx).toArray
  have H0 := h.later ((Grw.refl w).alloc (.cells (encP p T vd vg vx).toArray 35)).below
  have K00 := wrote_alloc (B := B) (g := g) hle (.cells (encP p T vd vg vx).toArray 35)
  have HU := Lib.hid hu
  have HL0 : Hid (([] : List UInt8).length = 0) := Lib.hid rfl
  have HK := Lib.hid hk
  clear h hu hk
  simp only [encP] at O0 H0 K00 ⊢
  go_enter Try.func36, Try.ntmps36
  go_wp2_with fail
  refine (wconf B g _ _ H0 p.conf hty.1 (by rw [HL0.out]; omega)).mono ?_
  rintro e w1 (⟨hc1, rfl, H1, K1⟩ | ⟨hc, rfl, K1⟩)
  case inr =>
    have he : errFs (rowP p) p = errF .c p := by rw [HR.out]; simp only [errFs]; exact orN_left hc
    exact ⟨rfl, .inr ⟨by rw [he]; exact hc, by rw [he]; rfl, K00.trans K1⟩⟩
  have hz1 : Hid (errF .c p = 0) := Lib.hid hc1
  have hb1 : (putF .c p).length ≤ 18000 := putF_length ((errF_iff hty).1 hz1.out)
  have hb1' : (putC p.conf).length ≤ 18000 := hb1
  clear hc1 hb1
  have O1 := O0.wrote K1 hgw (by decide)
  have K01 := K00.trans K1
  obtain ⟨n1, hn1⟩ : ∃ x, ([] ++ putC p.conf).length = x := ⟨_, rfl⟩
  have hm1 : n1 ≤ 18000 := by rw [← hn1]; simp only [List.length_append, List.length_nil]; omega
  have HL1 := Lib.hid hn1
  clear hn1 K1 H0 O0 K00
  have c0 : w1.cell? ⟨w.heap.size, 0, none⟩ = some (.int .i64 8) := by rw [← HK.out]; exact O1.at_ 0 _ rfl
  have c15 : w1.cell? ⟨w.heap.size, 15, none⟩ = some (.int .i64 p.whom) := O1.at_ 15 _ rfl
  go_wp2_with fail
  refine (wprocess B g _ _ H1 p.whom (by rw [HL1.out]; omega)).mono ?_
  rintro e w2 (⟨hc2, rfl, H2, K2⟩ | ⟨hc, rfl, K2⟩)
  case inr =>
    have he : errFs (rowP p) p = errF .w p := by rw [HR.out]; simp only [errFs]; rw [orN_right (show errF .c p = 0 from hz1.out)]; exact orN_left hc
    exact ⟨rfl, .inr ⟨by rw [he]; exact hc, by rw [he]; rfl, K01.trans K2⟩⟩
  have hz2 : Hid (errF .w p = 0) := Lib.hid hc2
  have hb2 : (putF .w p).length ≤ 18000 := putF_length ((errF_iff hty).1 hz2.out)
  have hb2' : (putP p.whom).length ≤ 18000 := hb2
  clear hc2 hb2
  have O2 := O1.wrote K2 hgw (by decide)
  have K02 := K01.trans K2
  obtain ⟨n2, hn2⟩ : ∃ x, ([] ++ putC p.conf ++ putP p.whom).length = x := ⟨_, rfl⟩
  have hm2 : n2 ≤ 36000 := by rw [← hn2]; simp only [List.length_append, List.length_nil]; omega
  have HL2 := Lib.hid hn2
  clear hn2 K2 H1 O1 K01
  clear c15
  have c16 : w2.cell? ⟨w.heap.size, 16, none⟩ = some (.int .u32 (p.seq : Int)) := O2.at_ 16 _ rfl
  go_wp2_with fail
  refine (wput B g _ _ H2 p.seq 4 4 (by decide) (by decide) (by decide) (by omega) (by rw [HL2.out]; omega)).mono ?_
  rintro e w3 ⟨rfl, H3, K3⟩
  have hb3' : (pb 4 p.seq).length ≤ 18000 := by rw [pb_length]; decide
  have O3 := O2.wrote K3 hgw (by decide)
  have K03 := K02.trans K3
  obtain ⟨n3, hn3⟩ : ∃ x, ([] ++ putC p.conf ++ putP p.whom ++ pb 4 p.seq).length = x := ⟨_, rfl⟩
  have hm3 : n3 ≤ 54000 := by rw [← hn3]; simp only [List.length_append, List.length_nil]; omega
  have HL3 := Lib.hid hn3
  clear hn3 K3 H2 O2 K02
  clear c16
  go_wp2
  go_end0
  refine .inl ⟨by rw [HR.out]; simp only [errFs]; rw [orN_right (show errF .c p = 0 from hz1.out)]; rw [orN_right (show errF .w p = 0 from hz2.out)]; rw [orN_right (show errF .q p = 0 from rfl)], rfl, ?_, K03⟩
  have e : [] ++ putFs (rowP p) p = [] ++ putC p.conf ++ putP p.whom ++ pb 4 p.seq := by rw [HR.out]; simp only [putFs, putF, List.append_assoc, List.append_nil]
  rw [e]
  exact H3

set_option maxHeartbeats 4000000 in
set_option maxRecDepth 100000 in
theorem wbody_9 (B g : Nat) (w0 w : World) (h : Wr B g w []) (hu : Und B w0 w) (p : Pk) (T : ByteArray) (vd vg vx : Vc) (ht : PkAt w0 p T vd vg vx) (hty : p.typed) (hsm : Small p) (hk : p.kind = 9) :
    Calls Try.prog 36 #[.pointer (some ⟨g, 0, none⟩), .agg (encP p T vd vg vx).toArray] w (WP (errFs (rowP p) p) (putFs (rowP p) p) B g [] w) := by
  have hle := h.le
  have hlt := h.lt
  have hgw : w.heap.size ≠ g := by omega
  have hd : vd.n ≤ 1048576 := by rw [← ht.deps.len]; exact hsm.deps
  have hgn : vg.n ≤ 1048576 := by rw [← ht.got.len]; exact hsm.got
  have hxn : vx.n ≤ 1048576 := by rw [← ht.xs.len]; exact hsm.xs
  have hT : T.size ≤ 1048576 := by rw [size_text ht.text]; exact hsm.text
  have hst : p.stamp < 18446744073709551616 := hty.2.2.1
  have hse : p.sent < 4294967296 := hty.2.2.2.1
  have hho : p.hor < 18446744073709551616 := hty.2.2.2.2.2.1
  have hsq : p.seq < 4294967296 := hty.2.2.2.2.2.2.1
  have hme : p.mem < 18446744073709551616 := hty.2.2.2.2.2.2.2.1
  have hep : p.epoch < 18446744073709551616 := hty.2.2.2.2.2.2.2.2.2.1
  have htx := hty.2.2.2.2.2.2.2.2.2.2
  have HR : Hid (rowP p = [.c, .w, .m]) := Lib.hid (by unfold rowP; rw [hk]; rfl)
  have O0 := Own.new w 35 (encP p T vd vg vx).toArray
  have H0 := h.later ((Grw.refl w).alloc (.cells (encP p T vd vg vx).toArray 35)).below
  have K00 := wrote_alloc (B := B) (g := g) hle (.cells (encP p T vd vg vx).toArray 35)
  have HU := Lib.hid hu
  have HL0 : Hid (([] : List UInt8).length = 0) := Lib.hid rfl
  have HK := Lib.hid hk
  clear h hu hk
  simp only [encP] at O0 H0 K00 ⊢
  go_enter Try.func36, Try.ntmps36
  go_wp2_with fail
  refine (wconf B g _ _ H0 p.conf hty.1 (by rw [HL0.out]; omega)).mono ?_
  rintro e w1 (⟨hc1, rfl, H1, K1⟩ | ⟨hc, rfl, K1⟩)
  case inr =>
    have he : errFs (rowP p) p = errF .c p := by rw [HR.out]; simp only [errFs]; exact orN_left hc
    exact ⟨rfl, .inr ⟨by rw [he]; exact hc, by rw [he]; rfl, K00.trans K1⟩⟩
  have hz1 : Hid (errF .c p = 0) := Lib.hid hc1
  have hb1 : (putF .c p).length ≤ 18000 := putF_length ((errF_iff hty).1 hz1.out)
  have hb1' : (putC p.conf).length ≤ 18000 := hb1
  clear hc1 hb1
  have O1 := O0.wrote K1 hgw (by decide)
  have K01 := K00.trans K1
  obtain ⟨n1, hn1⟩ : ∃ x, ([] ++ putC p.conf).length = x := ⟨_, rfl⟩
  have hm1 : n1 ≤ 18000 := by rw [← hn1]; simp only [List.length_append, List.length_nil]; omega
  have HL1 := Lib.hid hn1
  clear hn1 K1 H0 O0 K00
  have c0 : w1.cell? ⟨w.heap.size, 0, none⟩ = some (.int .i64 9) := by rw [← HK.out]; exact O1.at_ 0 _ rfl
  have c15 : w1.cell? ⟨w.heap.size, 15, none⟩ = some (.int .i64 p.whom) := O1.at_ 15 _ rfl
  go_wp2_with fail
  refine (wprocess B g _ _ H1 p.whom (by rw [HL1.out]; omega)).mono ?_
  rintro e w2 (⟨hc2, rfl, H2, K2⟩ | ⟨hc, rfl, K2⟩)
  case inr =>
    have he : errFs (rowP p) p = errF .w p := by rw [HR.out]; simp only [errFs]; rw [orN_right (show errF .c p = 0 from hz1.out)]; exact orN_left hc
    exact ⟨rfl, .inr ⟨by rw [he]; exact hc, by rw [he]; rfl, K01.trans K2⟩⟩
  have hz2 : Hid (errF .w p = 0) := Lib.hid hc2
  have hb2 : (putF .w p).length ≤ 18000 := putF_length ((errF_iff hty).1 hz2.out)
  have hb2' : (putP p.whom).length ≤ 18000 := hb2
  clear hc2 hb2
  have O2 := O1.wrote K2 hgw (by decide)
  have K02 := K01.trans K2
  obtain ⟨n2, hn2⟩ : ∃ x, ([] ++ putC p.conf ++ putP p.whom).length = x := ⟨_, rfl⟩
  have hm2 : n2 ≤ 36000 := by rw [← hn2]; simp only [List.length_append, List.length_nil]; omega
  have HL2 := Lib.hid hn2
  clear hn2 K2 H1 O1 K01
  clear c15
  have c5 : w2.cell? ⟨w.heap.size, 5, none⟩ = some (.int .i64 p.m.f) := O2.at_ 5 _ rfl
  have c6 : w2.cell? ⟨w.heap.size, 6, none⟩ = some (.int .u32 (p.m.q : Int)) := O2.at_ 6 _ rfl
  have c7 : w2.cell? ⟨w.heap.size, 7, none⟩ = some (.int .u64 (p.m.s : Int)) := O2.at_ 7 _ rfl
  have c8 : w2.cell? ⟨w.heap.size, 8, none⟩ = some (.int .i64 p.m.v) := O2.at_ 8 _ rfl
  have c9 : w2.cell? ⟨w.heap.size, 9, none⟩ = some (.slice vd.a vd.n vd.c) := O2.at_ 9 _ rfl
  have c10 : w2.cell? ⟨w.heap.size, 10, none⟩ = some (.string T) := O2.at_ 10 _ rfl
  go_wp2_with fail
  refine (wmessage B g _ w0 _ H2 (HU.out.later K02) p.m T vd ht.text hty.2.1 ht.deps hd hT (by rw [HL2.out]; omega)).mono ?_
  rintro e w3 (⟨hc3, rfl, H3, K3⟩ | ⟨hc, rfl, K3⟩)
  case inr =>
    have he : errFs (rowP p) p = errF .m p := by rw [HR.out]; simp only [errFs]; rw [orN_right (show errF .c p = 0 from hz1.out)]; rw [orN_right (show errF .w p = 0 from hz2.out)]; exact orN_left hc
    exact ⟨rfl, .inr ⟨by rw [he]; exact hc, by rw [he]; rfl, K02.trans K3⟩⟩
  have hz3 : Hid (errF .m p = 0) := Lib.hid hc3
  have hb3 : (putF .m p).length ≤ 18000 := putF_length ((errF_iff hty).1 hz3.out)
  have hb3' : (putM p.m).length ≤ 18000 := hb3
  clear hc3 hb3
  have O3 := O2.wrote K3 hgw (by decide)
  have K03 := K02.trans K3
  obtain ⟨n3, hn3⟩ : ∃ x, ([] ++ putC p.conf ++ putP p.whom ++ putM p.m).length = x := ⟨_, rfl⟩
  have hm3 : n3 ≤ 54000 := by rw [← hn3]; simp only [List.length_append, List.length_nil]; omega
  have HL3 := Lib.hid hn3
  clear hn3 K3 H2 O2 K02
  clear c5 c6 c7 c8 c9 c10
  go_wp2
  go_end0
  refine .inl ⟨by rw [HR.out]; simp only [errFs]; rw [orN_right (show errF .c p = 0 from hz1.out)]; rw [orN_right (show errF .w p = 0 from hz2.out)]; rw [orN_right (show errF .m p = 0 from hz3.out)], rfl, ?_, K03⟩
  have e : [] ++ putFs (rowP p) p = [] ++ putC p.conf ++ putP p.whom ++ putM p.m := by rw [HR.out]; simp only [putFs, putF, List.append_assoc, List.append_nil]
  rw [e]
  exact H3

set_option maxHeartbeats 4000000 in
set_option maxRecDepth 100000 in
theorem wbody_10 (B g : Nat) (w0 w : World) (h : Wr B g w []) (hu : Und B w0 w) (p : Pk) (T : ByteArray) (vd vg vx : Vc) (ht : PkAt w0 p T vd vg vx) (hty : p.typed) (hsm : Small p) (hk : p.kind = 10) :
    Calls Try.prog 36 #[.pointer (some ⟨g, 0, none⟩), .agg (encP p T vd vg vx).toArray] w (WP (errFs (rowP p) p) (putFs (rowP p) p) B g [] w) := by
  have hle := h.le
  have hlt := h.lt
  have hgw : w.heap.size ≠ g := by omega
  have hd : vd.n ≤ 1048576 := by rw [← ht.deps.len]; exact hsm.deps
  have hgn : vg.n ≤ 1048576 := by rw [← ht.got.len]; exact hsm.got
  have hxn : vx.n ≤ 1048576 := by rw [← ht.xs.len]; exact hsm.xs
  have hT : T.size ≤ 1048576 := by rw [size_text ht.text]; exact hsm.text
  have hst : p.stamp < 18446744073709551616 := hty.2.2.1
  have hse : p.sent < 4294967296 := hty.2.2.2.1
  have hho : p.hor < 18446744073709551616 := hty.2.2.2.2.2.1
  have hsq : p.seq < 4294967296 := hty.2.2.2.2.2.2.1
  have hme : p.mem < 18446744073709551616 := hty.2.2.2.2.2.2.2.1
  have hep : p.epoch < 18446744073709551616 := hty.2.2.2.2.2.2.2.2.2.1
  have htx := hty.2.2.2.2.2.2.2.2.2.2
  have HR : Hid (rowP p = [.c]) := Lib.hid (by unfold rowP; rw [hk]; rfl)
  have O0 := Own.new w 35 (encP p T vd vg vx).toArray
  have H0 := h.later ((Grw.refl w).alloc (.cells (encP p T vd vg vx).toArray 35)).below
  have K00 := wrote_alloc (B := B) (g := g) hle (.cells (encP p T vd vg vx).toArray 35)
  have HU := Lib.hid hu
  have HL0 : Hid (([] : List UInt8).length = 0) := Lib.hid rfl
  have HK := Lib.hid hk
  clear h hu hk
  simp only [encP] at O0 H0 K00 ⊢
  go_enter Try.func36, Try.ntmps36
  go_wp2_with fail
  refine (wconf B g _ _ H0 p.conf hty.1 (by rw [HL0.out]; omega)).mono ?_
  rintro e w1 (⟨hc1, rfl, H1, K1⟩ | ⟨hc, rfl, K1⟩)
  case inr =>
    have he : errFs (rowP p) p = errF .c p := by rw [HR.out]; simp only [errFs]; exact orN_left hc
    exact ⟨rfl, .inr ⟨by rw [he]; exact hc, by rw [he]; rfl, K00.trans K1⟩⟩
  have hz1 : Hid (errF .c p = 0) := Lib.hid hc1
  have hb1 : (putF .c p).length ≤ 18000 := putF_length ((errF_iff hty).1 hz1.out)
  have hb1' : (putC p.conf).length ≤ 18000 := hb1
  clear hc1 hb1
  have O1 := O0.wrote K1 hgw (by decide)
  have K01 := K00.trans K1
  obtain ⟨n1, hn1⟩ : ∃ x, ([] ++ putC p.conf).length = x := ⟨_, rfl⟩
  have hm1 : n1 ≤ 18000 := by rw [← hn1]; simp only [List.length_append, List.length_nil]; omega
  have HL1 := Lib.hid hn1
  clear hn1 K1 H0 O0 K00
  have c0 : w1.cell? ⟨w.heap.size, 0, none⟩ = some (.int .i64 10) := by rw [← HK.out]; exact O1.at_ 0 _ rfl
  go_wp2
  go_end0
  refine .inl ⟨by rw [HR.out]; simp only [errFs]; rw [orN_right (show errF .c p = 0 from hz1.out)], rfl, ?_, K01⟩
  have e : [] ++ putFs (rowP p) p = [] ++ putC p.conf := by rw [HR.out]; simp only [putFs, putF, List.append_assoc, List.append_nil]
  rw [e]
  exact H1

set_option maxHeartbeats 4000000 in
set_option maxRecDepth 100000 in
theorem wbody_11 (B g : Nat) (w0 w : World) (h : Wr B g w []) (hu : Und B w0 w) (p : Pk) (T : ByteArray) (vd vg vx : Vc) (ht : PkAt w0 p T vd vg vx) (hty : p.typed) (hsm : Small p) (hk : p.kind = 11) :
    Calls Try.prog 36 #[.pointer (some ⟨g, 0, none⟩), .agg (encP p T vd vg vx).toArray] w (WP (errFs (rowP p) p) (putFs (rowP p) p) B g [] w) := by
  have hle := h.le
  have hlt := h.lt
  have hgw : w.heap.size ≠ g := by omega
  have hd : vd.n ≤ 1048576 := by rw [← ht.deps.len]; exact hsm.deps
  have hgn : vg.n ≤ 1048576 := by rw [← ht.got.len]; exact hsm.got
  have hxn : vx.n ≤ 1048576 := by rw [← ht.xs.len]; exact hsm.xs
  have hT : T.size ≤ 1048576 := by rw [size_text ht.text]; exact hsm.text
  have hst : p.stamp < 18446744073709551616 := hty.2.2.1
  have hse : p.sent < 4294967296 := hty.2.2.2.1
  have hho : p.hor < 18446744073709551616 := hty.2.2.2.2.2.1
  have hsq : p.seq < 4294967296 := hty.2.2.2.2.2.2.1
  have hme : p.mem < 18446744073709551616 := hty.2.2.2.2.2.2.2.1
  have hep : p.epoch < 18446744073709551616 := hty.2.2.2.2.2.2.2.2.2.1
  have htx := hty.2.2.2.2.2.2.2.2.2.2
  have HR : Hid (rowP p = [.c]) := Lib.hid (by unfold rowP; rw [hk]; rfl)
  have O0 := Own.new w 35 (encP p T vd vg vx).toArray
  have H0 := h.later ((Grw.refl w).alloc (.cells (encP p T vd vg vx).toArray 35)).below
  have K00 := wrote_alloc (B := B) (g := g) hle (.cells (encP p T vd vg vx).toArray 35)
  have HU := Lib.hid hu
  have HL0 : Hid (([] : List UInt8).length = 0) := Lib.hid rfl
  have HK := Lib.hid hk
  clear h hu hk
  simp only [encP] at O0 H0 K00 ⊢
  go_enter Try.func36, Try.ntmps36
  go_wp2_with fail
  refine (wconf B g _ _ H0 p.conf hty.1 (by rw [HL0.out]; omega)).mono ?_
  rintro e w1 (⟨hc1, rfl, H1, K1⟩ | ⟨hc, rfl, K1⟩)
  case inr =>
    have he : errFs (rowP p) p = errF .c p := by rw [HR.out]; simp only [errFs]; exact orN_left hc
    exact ⟨rfl, .inr ⟨by rw [he]; exact hc, by rw [he]; rfl, K00.trans K1⟩⟩
  have hz1 : Hid (errF .c p = 0) := Lib.hid hc1
  have hb1 : (putF .c p).length ≤ 18000 := putF_length ((errF_iff hty).1 hz1.out)
  have hb1' : (putC p.conf).length ≤ 18000 := hb1
  clear hc1 hb1
  have O1 := O0.wrote K1 hgw (by decide)
  have K01 := K00.trans K1
  obtain ⟨n1, hn1⟩ : ∃ x, ([] ++ putC p.conf).length = x := ⟨_, rfl⟩
  have hm1 : n1 ≤ 18000 := by rw [← hn1]; simp only [List.length_append, List.length_nil]; omega
  have HL1 := Lib.hid hn1
  clear hn1 K1 H0 O0 K00
  have c0 : w1.cell? ⟨w.heap.size, 0, none⟩ = some (.int .i64 11) := by rw [← HK.out]; exact O1.at_ 0 _ rfl
  go_wp2
  go_end0
  refine .inl ⟨by rw [HR.out]; simp only [errFs]; rw [orN_right (show errF .c p = 0 from hz1.out)], rfl, ?_, K01⟩
  have e : [] ++ putFs (rowP p) p = [] ++ putC p.conf := by rw [HR.out]; simp only [putFs, putF, List.append_assoc, List.append_nil]
  rw [e]
  exact H1

theorem wbody (B g : Nat) (w0 w : World) (h : Wr B g w []) (hu : Und B w0 w) (p : Pk) (T : ByteArray) (vd vg vx : Vc) (ht : PkAt w0 p T vd vg vx) (hty : p.typed) (hsm : Small p) (h1 : 1 ≤ p.kind) (h2 : p.kind ≤ 11) :
    Calls Try.prog 36 #[.pointer (some ⟨g, 0, none⟩), .agg (encP p T vd vg vx).toArray] w (WP (errFs (rowP p) p) (putFs (rowP p) p) B g [] w) := by
  obtain hk | hk | hk | hk | hk | hk | hk | hk | hk | hk | hk : p.kind = 1 ∨ p.kind = 2 ∨ p.kind = 3 ∨ p.kind = 4 ∨ p.kind = 5 ∨ p.kind = 6 ∨ p.kind = 7 ∨ p.kind = 8 ∨ p.kind = 9 ∨ p.kind = 10 ∨ p.kind = 11 := by omega
  · exact wbody_1 B g w0 w h hu p T vd vg vx ht hty hsm hk
  · exact wbody_2 B g w0 w h hu p T vd vg vx ht hty hsm hk
  · exact wbody_3 B g w0 w h hu p T vd vg vx ht hty hsm hk
  · exact wbody_4 B g w0 w h hu p T vd vg vx ht hty hsm hk
  · exact wbody_5 B g w0 w h hu p T vd vg vx ht hty hsm hk
  · exact wbody_6 B g w0 w h hu p T vd vg vx ht hty hsm hk
  · exact wbody_7 B g w0 w h hu p T vd vg vx ht hty hsm hk
  · exact wbody_8 B g w0 w h hu p T vd vg vx ht hty hsm hk
  · exact wbody_9 B g w0 w h hu p T vd vg vx ht hty hsm hk
  · exact wbody_10 B g w0 w h hu p T vd vg vx ht hty hsm hk
  · exact wbody_11 B g w0 w h hu p T vd vg vx ht hty hsm hk
end Go.Proofs.Ytibngfpjdookkaa
