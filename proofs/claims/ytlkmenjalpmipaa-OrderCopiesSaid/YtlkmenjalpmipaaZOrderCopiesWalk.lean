/- The walk of OrderCopies. (Written by gen_ocopies.py.) -/
import Derived.Test.YtlkmenjalpmipaaZOrdOpens
set_option linter.unusedVariables false
set_option maxRecDepth 100000
set_option linter.unusedSimpArgs false
namespace Go.Proofs.Ytlkmenjalpmipaa
open Go.RowKit Go.Sort Go.Shelf

/-- Amid an order's further acts: of what was there at w0 only its own blocks E0 may turn. -/
structure CpO (E0 : Nat → Prop) (w w0 wr : World) (g N : Nat) (O : Od) (v : Value) (n : Nat) (L : List Mg) : Prop where
  ex : ∃ E X, ORep wr E g N O ∧ (∀ k, E k → w.heap.size ≤ k) ∧ (∀ k, k < w0.heap.size → ¬ E0 k → ¬ E k) ∧ RowO E w0.heap.size wr v n X ∧ X.map strip = L
  keep : ∀ k, k < w0.heap.size → ¬ E0 k → wr.heap[k]? = w0.heap[k]?
  bel : Below w.heap.size w wr
  size : w0.heap.size ≤ wr.heap.size
theorem CpO.start {E0 : Nat → Prop} {w w0 : World} {g N : Nat} {O : Od} (h : ORep w0 E0 g N O) (h1 : ∀ k, E0 k → w.heap.size ≤ k) (hb : Below w.heap.size w w0) : CpO E0 w w0 w0 g N O (.slice none 0 0) 0 [] :=
  ⟨⟨E0, [], h, h1, fun k _ hk => hk, RowO.none _, rfl⟩, fun _ _ _ => rfl, hb, Nat.le_refl _⟩
/-- Behind an act. -/
structure CpA (E0 : Nat → Prop) (w w0 wr : World) (g N : Nat) (O : Od) (v : Value) (n : Nat) (X : List Mg) (a : Option Addr) (m c : Nat) (Y : List Mg) : Prop where
  ex : ∃ E, ORep wr E g N O ∧ (∀ k, E k → w.heap.size ≤ k) ∧ (∀ k, k < w0.heap.size → ¬ E0 k → ¬ E k) ∧ RowO E w0.heap.size wr v n X ∧ RowO E w0.heap.size wr (.slice a m c) m Y
  keep : ∀ k, k < w0.heap.size → ¬ E0 k → wr.heap[k]? = w0.heap[k]?
  bel : Below w.heap.size w wr
  size : w0.heap.size ≤ wr.heap.size
section
variable {E0 : Nat → Prop} {w w0 wr : World} {g N : Nat} {O : Od} {v : Value} {n : Nat} {L : List Mg}
theorem CpO.act (h : CpO E0 w w0 wr g N O v n L) (hN : N ≤ 999) (a : OA) (ha : a.ok wr) (hdl : a.m.dl ≤ 1048576) :
    Calls Try.prog 26 #[.pointer (some ⟨g, 0, none⟩), .agg (encO a).toArray] wr fun e w' => ∃ b m c X Y, e = .returned (.slice b m c) ∧ CpA E0 w w0 w' g (N + 1) (stepO O a).1 v n X b m c Y ∧ X.map strip = L ∧ Y.map strip = (stepO O a).2 := by
  obtain ⟨E, X, h1, h2, h3, h4, h5⟩ := h.ex
  refine (oact h1 hN a ha hdl).mono fun e w' hs => ?_
  obtain ⟨b, m, c, Y, E', k1, k2, k3, k4, k5, k6⟩ := hs.ex
  have hs0 := h.size
  refine ⟨b, m, c, X, Y, k1, ⟨⟨E', k4, fun k hk => ?_, fun k hk hn he => ?_, h4.kept k5 k6, ⟨own_base k2.own (by omega), k2.len, k2.ne, fun x hx => (k2.deps x hx).more fun j _ hj => ⟨by omega, hj.2⟩⟩⟩, fun k hk hn => (k5.block k (by omega) (h3 k hk hn)).trans (h.keep k hk hn), h.bel.trans (k5.below h.bel.size h2), Nat.le_trans hs0 k5.size⟩, h5, k3⟩
  · rcases k6 k hk with e | e
    · exact h2 k e
    · have := h.bel.size; omega
  · rcases k6 k he with e | e
    · exact h3 k hk hn e
    · omega
theorem CpA.own {X Y : List Mg} {a : Option Addr} {m c : Nat} (h : CpA E0 w w0 wr g N O v n X a m c Y) : wr.ownsRow w0.heap.size 47 6 v n (flat encG X) ∧ Lst encG 6 wr a m Y ∧ (a = none → m = 0 ∧ c = 0) ∧ X.length = n ∧ Y.length = m := by
  obtain ⟨E, h1, h2, h3, h4, h5⟩ := h.ex
  exact ⟨h4.own, h5.lst, own_none h5.own, h4.len, h5.len⟩
theorem CpA.app {X Y : List Mg} {a : Option Addr} {m c : Nat} (h : CpA E0 w w0 wr g N O v n X a m c Y) (hw : w.heap.size ≤ w0.heap.size) {w' : World} {v2 : Value} (k1 : w'.ownsRow w0.heap.size 47 6 v2 (n + m) (flat encG (X ++ Y))) (k2 : wr.grownBy w' v.ownBlock) (k3 : v2.ownBlock = v.ownBlock ∨ v2.ownBlock = some wr.heap.size) : CpO E0 w w0 w' g N O v2 (n + m) (X.map strip ++ Y.map strip) := by
  obtain ⟨E, h1, h2, h3, h4, h6⟩ := h.ex
  have hs0 := h.size
  refine ⟨⟨E, X ++ Y, h1.kept k2.size fun k hk => k2.block k (h1.lim k hk) (fun e => h4.ne k e hk), h2, h3, h4.app h6 (Nat.le_refl _) h1.lim k1 k2 k3, by rw [List.map_append]⟩, fun k hk hn => (k2.block k (by omega) (fun e => ?_)).trans (h.keep k hk hn), ?_, Nat.le_trans hs0 k2.size⟩
  · have := (own_typ h4.own k e).1
    omega
  · exact h.bel.grown k2 (h.bel.size) fun k hk => by
      have := (own_typ h4.own k hk.symm).1
      omega
end
def outK (O : Od) (l : List OA) (k i : Nat) : List Mg := outO (runO O (l.take k)) ((l.drop k).take (i - k))
theorem run_split (O : Od) (l : List OA) (k i : Nat) (h : k ≤ i) : runO (runO O (l.take k)) ((l.drop k).take (i - k)) = runO O (l.take i) := by
  rw [← runO_append, ← List.take_add, show k + (i - k) = i by omega]
theorem outK_start (O : Od) (l : List OA) (k : Nat) : outK O l k k = [] := by unfold outK; rw [Nat.sub_self, List.take_zero]; rfl
theorem outK_step (O : Od) (l : List OA) (k i : Nat) (a : OA) (h : k ≤ i) (ha : l[i]? = some a) : outK O l k (i + 1) = outK O l k i ++ (stepO (runO O (l.take i)) a).2 := by
  unfold outK
  have e : (l.drop k)[i - k]? = some a := by rw [List.getElem?_drop, show k + (i - k) = i by omega]; exact ha
  rw [show i + 1 - k = i - k + 1 by omega, List.take_add_one, e, outO_append, run_split O l k i h]
  show _ ++ ((stepO _ a).2 ++ []) = _
  rw [List.append_nil]
theorem outK_few {O : Od} (l : List OA) (hO : O.ok) (h0 : leftO O = 0) (ha : ∀ a ∈ l, a.okN) (k i : Nat) (h : k ≤ i) : (outK O l k i).length ≤ i := by
  have h1 := run_leftO (l.take k) O hO fun a hm => ha a (List.mem_of_mem_take hm)
  have h2 := run_leftO ((l.drop k).take (i - k)) (runO O (l.take k)) (run_okO _ hO fun a hm => ha a (List.mem_of_mem_take hm)) fun a hm => ha a (List.mem_of_mem_drop (List.mem_of_mem_take hm))
  have h3 : (l.take k).length ≤ k := by rw [List.length_take]; omega
  have h4 : ((l.drop k).take (i - k)).length ≤ i - k := by rw [List.length_take]; omega
  unfold outK
  omega
theorem rest_few {w : World} {E : Nat → Prop} {g N : Nat} {O : Od} {Y Z : List Mg} (h : IsRest O (Y.map strip)) (k : IsRest O (Z.map strip)) : Y.map strip = Z.map strip := h.one k
set_option maxHeartbeats 8000000 in
theorem copies_core (ms : Nat) (hms : ms < 18446744073709551616) (ao : Option Addr) (len cap : Nat) (l : List OA) (n : Int) (n0 : -9223372036854775808 ≤ n) (n1 : n ≤ 9223372036854775807) (w : World) (hl : Lst encO 10 w ao len l) (hok : ∀ a ∈ l, a.ok w) :
    Calls Try.prog 6 #[.int .u64 (ms : Int), .slice ao len cap, .int .i64 n] w fun e w' => e = .returned (.bool true) ∧ Below w.heap.size w w' := by
  have PA := oawake w
  have HL := Lib.hid hl
  have HO := Lib.hid hok
  have HON := Lib.hid (fun a ha => (hok a ha).n)
  clear hl hok
  go_enter Try.func6, Try.ntmps6
  go_wp2_with fail
  refine PA.mono ?_
  rintro e w1 ⟨rfl, B1⟩
  have PF := ofew ao len cap l w1 (HL.out.below B1)
  have HB1 := Lib.hid B1
  clear PA B1
  go_wp2_with fail
  refine PF.mono ?_
  rintro e w2 ⟨h2, B2⟩
  have HB2 := Lib.hid (HB1.out.trans (B2.mono HB1.out.size))
  clear PF B2 HB1
  rcases h2 with rfl | ⟨rfl, hlen, hdl⟩
  · go_wp2
    go_ret
    exact ⟨rfl, HB2.out⟩
  by_cases hn0 : n < 0
  · have hd0 : decide (n < 0) = true := by simpa using hn0
    clear hdl
    go_wp2
    go_ret
    exact ⟨rfl, HB2.out⟩
  obtain ⟨m, rfl⟩ := Int.eq_ofNat_of_zero_le (show 0 ≤ n by omega)
  by_cases hn1 : len < m
  · have hz : (len : Int) < (m : Int) := by omega
    clear hdl
    go_wp2
    go_ret
    exact ⟨rfl, HB2.out⟩
  have hz : ¬ (len : Int) < (m : Int) := by omega
  have HDL := Lib.hid hdl
  have PN := oo_new w w2 HB2.out 0 ms hms (by decide) (by decide)
  have HNEW := Lib.hid (And.intro (newO_ok 0 ms (by decide) (by decide)) (left_new 0 ms))
  generalize newO 0 ms = O0 at *
  clear hdl hn0
  go_wp2_with fail
  refine PN.mono ?_
  rintro e w3 ⟨g, rfl, H3⟩
  have HS3 : Hid (OwnO w w3 g 0 (runO O0 (l.take 0))) := Lib.hid H3
  clear PN H3 HB2
  go_wp2_with fail
  go_loopw [9] (fun si wr => ∃ k : Nat, k ≤ m ∧ si = .int .i64 k ∧ Hid (OwnO w wr g k (runO O0 (l.take k)))) (fun si _ => m - (intOf si).toNat)
  case atStart => exact ⟨0, Nat.zero_le _, rfl, HS3⟩
  case round =>
    clear HS3
    obtain ⟨k, hk, rfl, HS⟩ := hrel
    by_cases hlt : k < m
    · obtain ⟨b, o, x, rfl, hx, hb, hc⟩ := HL.out.atO (show k < len by omega)
      have hxm := List.mem_of_getElem? hx
      have hcr : ∀ c v, (encO x)[c]? = some v → wr.cell? ⟨b, o + k * 10 + c, none⟩ = some v := fun c v hv => cell_later HS.out.bel (hc c v hv)
      have c0 := hcr 0 _ rfl
      have c1 := hcr 1 _ rfl
      have c2 := hcr 2 _ rfl
      have c3 := hcr 3 _ rfl
      have c4 := hcr 4 _ rfl
      have c5 := hcr 5 _ rfl
      have c6 := hcr 6 _ rfl
      have c7 := hcr 7 _ rfl
      have c8 := hcr 8 _ rfl
      have c9 := hcr 9 _ rfl
      rw [Nat.add_zero] at c0
      have P := oo_act HS.out (by omega) x ((HO.out x hxm).below HS.out.bel) (by have := HDL.out x hxm; omega)
      rw [← runO_take O0 l k x hx] at P
      clear hcr hc hx hxm HS
      obtain ⟨kind, p, ⟨f, q, s, v, da, dl, dc, deps, text⟩, seq, st⟩ := x
      simp only at c0 c1 c2 c3 c4 c5 c6 c7 c8 c9
      unfold encO at P
      go_wp2_with fail
      refine P.mono ?_
      rintro e w4 ⟨⟨ra, rn, rc, rfl⟩, h4⟩
      have HS4 := Lib.hid h4
      clear P h4 c0 c1 c2 c3 c4 c5 c6 c7 c8 c9
      go_wp2
      go_roundw
      case rel => exact ⟨k + 1, by omega, by go_num, HS4⟩
      case measure => simp [intOf]; omega
    · obtain rfl : k = m := by omega
      obtain ⟨E1, h1, hE1⟩ := HS.out.ex
      have P1 := ocopy h1 (by omega)
      have HR1 := Lib.hid (And.intro h1 hE1)
      have HB := Lib.hid HS.out.bel
      clear h1 hE1 HS
      go_wp2_with fail
      refine P1.mono ?_
      rintro e w4 ⟨gc, rfl, hc4, B4⟩
      have h4 := HR1.out.1.below B4
      have P2 := orest h4 (by omega)
      have HC4 := Lib.hid hc4
      have HB4 := Lib.hid B4
      clear P1 hc4 B4
      go_wp2_with fail
      refine P2.mono ?_
      rintro e w5 ⟨⟨sa, sn, sc⟩, Y0, rfl, hO5, hI5, B5, hfw5⟩
      have P3 := olast (h4.below B5)
      have HO5 := Lib.hid (And.intro hO5 (And.intro hI5 (And.intro B5 hfw5)))
      clear P2 hO5 hI5 B5 hfw5 h4
      go_wp2_with fail
      refine P3.mono ?_
      rintro e w6 ⟨rfl, B6⟩
      generalize hKn : (runO O0 (l.take k)).last.n = kn at *
      generalize hKp : (runO O0 (l.take k)).last.p = kp at *
      have HKN := Lib.hid (And.intro hKn hKp)
      have L7 := ((Grw.refl w6).alloc (.cells #[.int .u64 kn, .int .i64 kp] 39)).below
      have V7 := Own.new w6 39 #[.int .u64 kn, .int .i64 kp]
      have HV7 := Lib.hid V7
      have HB7 := Lib.hid ((HB4.out.trans (HO5.out.2.2.1.mono HB4.out.size)).trans ((B6.mono (Nat.le_trans HB4.out.size HO5.out.2.2.1.size)).trans (L7.mono (Nat.le_trans (Nat.le_trans HB4.out.size HO5.out.2.2.1.size) B6.size))))
      have HO7 := Lib.hid (HO5.out.1.below (B6.trans (L7.mono B6.size)))
      have HI7 := Lib.hid HO5.out.2.1
      have HFW := Lib.hid HO5.out.2.2.2
      have HC7 := Lib.hid (HC4.out.below (HO5.out.2.2.1.trans ((B6.trans (L7.mono B6.size)).mono HO5.out.2.2.1.size)))
      have HSZ := Lib.hid (And.intro HB4.out.size (And.intro HO5.out.2.2.1.size (And.intro B6.size HB.out.size)))
      have HR7 := Lib.hid (And.intro (HR1.out.1.below HB7.out) (And.intro HR1.out.2 HR1.out.1.lim))
      have HBB := Lib.hid (HB.out.trans (HB7.out.mono HB.out.size))
      clear P3 B6 L7 V7 HO5 HC4 HB4 HB hKn hKp HR1
      go_upto_region 15 with fail
      obtain ⟨kb, hkb⟩ : ∃ kb, kb = w6.heap.size := ⟨_, rfl⟩
      rw [← hkb] at HV7
      try rw [← hkb]
      have HKB := Lib.hid hkb
      clear hkb
      generalize w6.alloc (.cells #[.int .u64 kn, .int .i64 kp] 39) = w7 at *
      have HS7 : Hid (CpO E1 w w7 w7 g k (runO O0 (l.take k)) (.slice none 0 0) 0 (outK O0 l k k)) := Lib.hid (by rw [outK_start]; exact CpO.start HR7.out.1 HR7.out.2.1 HBB.out)
      have HW70 := Lib.hid HBB.out.size
      obtain ⟨A, hA0⟩ : ∃ A, A = wr.heap.size := ⟨_, rfl⟩
      rw [← hA0] at HSZ HR7 HC7
      have HAS := Lib.hid hA0
      clear hA0
      go_loopw [13, 15] (fun so si wr => ∃ (i : Nat) (xa : Option Addr) (xn xc : Nat), k ≤ i ∧ i ≤ len ∧ so = .slice xa xn xc ∧ si = .int .i64 i ∧ Hid (CpO E1 w w7 wr g i (runO O0 (l.take i)) (.slice xa xn xc) xn (outK O0 l k i))) (fun _ si _ => len - (intOf si).toNat)
      case atStart => exact ⟨k, none, 0, 0, Nat.le_refl _, by omega, rfl, rfl, HS7⟩
      case round =>
        clear HS7
        obtain ⟨i, xa, xn, xc, hki, hi, rfl, rfl, HS⟩ := hrel
        by_cases hlt2 : i < len
        · obtain ⟨b, o, x, rfl, hx, hb, hc⟩ := HL.out.atO (show i < len by omega)
          have hxm := List.mem_of_getElem? hx
          have hcr : ∀ c v, (encO x)[c]? = some v → wr.cell? ⟨b, o + i * 10 + c, none⟩ = some v := fun c v hv => cell_later HS.out.bel (hc c v hv)
          have c0 := hcr 0 _ rfl
          have c1 := hcr 1 _ rfl
          have c2 := hcr 2 _ rfl
          have c3 := hcr 3 _ rfl
          have c4 := hcr 4 _ rfl
          have c5 := hcr 5 _ rfl
          have c6 := hcr 6 _ rfl
          have c7 := hcr 7 _ rfl
          have c8 := hcr 8 _ rfl
          have c9 := hcr 9 _ rfl
          rw [Nat.add_zero] at c0
          have P := HS.out.act (by omega) x ((HO.out x hxm).below HS.out.bel) (by have := HDL.out x hxm; omega)
          have HST := Lib.hid (outK_step O0 l k i x (by omega) hx)
          have HRT := Lib.hid (runO_take O0 l i x hx)
          rw [← HRT.out] at P
          have HFW2 := Lib.hid (outK_few l HNEW.out.1 HNEW.out.2 HON.out k (i + 1) (by omega))
          rw [HST.out, List.length_append] at HFW2
          generalize (stepO (runO O0 (l.take i)) x).2 = yl at *
          clear hcr hc hx hxm HS
          obtain ⟨kind, p, ⟨f, q, s, v, da, dl, dc, deps, text⟩, seq, st⟩ := x
          simp only at c0 c1 c2 c3 c4 c5 c6 c7 c8 c9
          unfold encO at P
          go_wp2_with fail
          refine P.mono ?_
          rintro e w8 ⟨ra, rn, rc, X, Y, rfl, hA, hX, hY⟩
          obtain ⟨q1, q2, q3, q4, q5⟩ := hA.own
          have hn2 : xn + rn ≤ 200000 := by
            have h1 := congrArg List.length hX
            have h2 := congrArg List.length hY
            rw [List.length_map] at h1 h2
            have := HFW2.out
            omega
          have HA := Lib.hid (And.intro hA (And.intro hX hY))
          have HQ := Lib.hid (And.intro q1 (And.intro q2 q3))
          have HN2 := Lib.hid hn2
          have HBS := Lib.hid hA.size
          clear P hA hX hY q1 q2 q3 q4 q5 hn2 c0 c1 c2 c3 c4 c5 c6 c7 c8 c9 HFW2
          go_wp2_with (at_builtin; refine wpList_append_at rfl (.tmp 59) (.tmp 66) rfl w7.heap.size (.slice xa xn xc) xn X rfl HQ.out.1 ra rn rc Y rfl HQ.out.2.1 HQ.out.2.2 HN2.out HBS.out ?_; intro v9 w9 h1 h2 h3)
          obtain ⟨ya, yc, rfl⟩ := own_form' h1
          have HS9 := Lib.hid (HA.out.1.app (by have := HW70.out; omega) h1 h2 h3)
          rw [HA.out.2.1, HA.out.2.2, ← HST.out] at HS9
          clear h1 h2 h3 HA HQ HN2 HBS HST HRT
          go_roundw
          case rel => exact ⟨i + 1, ya, xn + rn, yc, by omega, by omega, rfl, by go_num, HS9⟩
          case measure => simp [intOf]; omega
        · obtain rfl : len = i := by omega
          obtain ⟨E2, X2, r1, r2, r3, r4, r5⟩ := HS.out.ex
          have hkeep := HS.out.keep
          have hE1 : ∀ j, A ≤ j → ¬ E1 j := fun j hj he => by have := HR7.out.2.2 j he; omega
          have hs7 := HS.out.size
          have hc8 : ORep wr (newB A w4) gc k (runO O0 (l.take k)) := HC7.out.kept hs7 fun j hj => hkeep j (by have := HC7.out.lim j hj; omega) (hE1 j hj.1)
          have hO8 : OutR wr w4.heap.size ⟨sa, sn, sc⟩ Y0 := HO7.out.kept fun j hj hj2 => hkeep j hj2 (hE1 j (by have := HSZ.out.1; omega))
          have hV8 : Own wr kb 39 #[.int .u64 kn, .int .i64 kp] := (hkeep kb HV7.out.lt (hE1 kb (by have := HSZ.out; have := HKB.out; omega))).trans HV7.out
          have HR8 := Lib.hid (And.intro r1 (And.intro r2 (And.intro r3 (And.intro r4 r5))))
          have HC8 := Lib.hid hc8
          have HO8 := Lib.hid hO8
          have HV8 := Lib.hid hV8
          have HB8 := Lib.hid HS.out.bel
          have HZ8 := Lib.hid hs7
          have HV87 := Lib.hid (show w6.heap.size < w7.heap.size by have := HV7.out.lt; have := HKB.out; omega)
          clear r1 r2 r3 r4 r5 hkeep hE1 hs7 hc8 hO8 hV8 HS HV7 HO7 HC7
          go_upto_region 18 with fail
          have HB9 := Lib.hid (Grw.refl wr).drew.below
          obtain ⟨wa, hwa⟩ : ∃ wa, wa = wr.drew := ⟨_, rfl⟩
          rw [← hwa] at HB9
          have hk0 : wa.cell? ⟨kb, 0, none⟩ = some (.int .u64 kn) ∧ wa.cell? ⟨kb, 1, none⟩ = some (.int .i64 kp) ∧ kb < wa.heap.size := by
            have h := HV8.out.below HB9.out HV8.out.lt
            exact ⟨h.at_ 0 _ rfl, h.at_ 1 _ rfl, h.lt⟩
          refine wp_region_held_drew (S := fun w' => w'.cell? ⟨kb, 0, none⟩ = some (.int .u64 kn) ∧ w'.cell? ⟨kb, 1, none⟩ = some (.int .i64 kp) ∧ kb < w'.heap.size) (by kernel_rfl) (by rw [← hwa]; exact hk0) (fun hHeld => ?_)
          rw [← hwa] at hHeld
          rw [← hwa]
          clear hwa
          refine stake (i := 0) (v := (.pointer (some ⟨gc, 0, none⟩))) 68 rfl (by kernel_rfl) (by kernel_rfl) (by kernel_rfl) (by kernel_rfl) (fun _ _ _ h => h) (.inl ⟨by kernel_rfl, fun w' hS => by (go_simp)⟩) hHeld ?_
          (try simp only [Act.put, List.setIfInBounds_toArray, List.set_cons_zero, List.set_cons_succ])
          refine stake (i := 2) (v := (.slice sa sn sc)) 70 rfl (by kernel_rfl) (by kernel_rfl) (by kernel_rfl) (by kernel_rfl) (fun _ _ _ h => h) (.inl ⟨by kernel_rfl, fun w' hS => by (go_simp)⟩) hHeld ?_
          (try simp only [Act.put, List.setIfInBounds_toArray, List.set_cons_zero, List.set_cons_succ])
          have hC9 := HC8.out.below HB9.out
          have PR := orest hC9 (by omega)
          refine wpAnyH_ready (rs := [1]) (by kernel_rfl) (by simp) (AllReadyH.cons rfl (fun K hK => ?_) AllReadyH.nil)
          have hS0 := hHeld
          clear hHeld
          rw [if_pos (by kernel_rfl)]
          go_simp
          refine PR.mono ?_
          rintro e wb ⟨⟨ta, tn, tc⟩, Y1, rfl, hO1, hI1, hBb, hfw1⟩
          have hSb := And.intro (cell_later hBb hk0.1) (And.intro (cell_later hBb hk0.2.1) (Nat.lt_of_lt_of_le hk0.2.2 hBb.size))
          have hsame : Y1.map strip = Y0.map strip := hI1.one HI7.out
          have PA := all_rows14 (sc := tc) (tc := sc) hO1.slot.lst (((HO8.out.below HB9.out).below hBb).slot.lst) (fun x hx => ⟨(hO1.deps x hx).deps, (hO1.deps x hx).few⟩) (fun y hy => (((HO8.out.below HB9.out).below hBb).deps y hy).deps) hsame (show tn ≤ 1048576 by have : tn ≤ 64000 := hfw1; omega)
          have HCb := Lib.hid (hC9.below hBb)
          have HBb := Lib.hid hBb
          refine hK.out _ _ hSb (fun hHeld => ?_)
          clear hK K PR hO1 hI1 hfw1 hsame hS0 hBb hC9
          (try simp only [Act.put, List.setIfInBounds_toArray, List.set_cons_zero, List.set_cons_succ])
          refine wpAnyH_ready (rs := [3]) (by kernel_rfl) (by simp) (AllReadyH.cons rfl (fun K hK => ?_) AllReadyH.nil)
          clear hHeld
          rw [if_pos (by kernel_rfl)]
          go_simp
          refine PA.mono ?_
          rintro e wc ⟨rfl, hGc⟩
          have hSc := And.intro (cell_later hGc.below hSb.1) (And.intro (cell_later hGc.below hSb.2.1) (Nat.lt_of_lt_of_le hSb.2.2 hGc.below.size))
          have hCc := HCb.out.below hGc.below
          have PL := olast hCc
          rw [HKN.out.1, HKN.out.2] at PL
          have HCc := Lib.hid hCc
          have HBc := Lib.hid (HBb.out.trans (hGc.below.mono HBb.out.size))
          refine hK.out _ _ hSc (fun hHeld => ?_)
          clear hK K PA hGc hCc
          (try simp only [Act.put, List.setIfInBounds_toArray, List.set_cons_zero, List.set_cons_succ])
          refine stake (i := 4) (v := (.bool false)) 72 rfl (by kernel_rfl) (by kernel_rfl) (by kernel_rfl) (by kernel_rfl) (fun _ _ _ h => h) (.inl ⟨by kernel_rfl, fun w' hS => by (go_simp)⟩) hHeld ?_
          (try simp only [Act.put, List.setIfInBounds_toArray, List.set_cons_zero, List.set_cons_succ])
          refine stake (i := 5) (v := (.bool false)) 73 rfl (by kernel_rfl) (by kernel_rfl) (by kernel_rfl) (by kernel_rfl) (fun _ _ _ h => h) (.inl ⟨by kernel_rfl, fun w' hS => by (go_simp)⟩) hHeld ?_
          (try simp only [Act.put, List.setIfInBounds_toArray, List.set_cons_zero, List.set_cons_succ])
          refine stake (i := 6) (v := (.pointer (some ⟨gc, 0, none⟩))) 74 rfl (by kernel_rfl) (by kernel_rfl) (by kernel_rfl) (by kernel_rfl) (fun _ _ _ h => h) (.inl ⟨by kernel_rfl, fun w' hS => by (go_simp)⟩) hHeld ?_
          (try simp only [Act.put, List.setIfInBounds_toArray, List.set_cons_zero, List.set_cons_succ])
          refine stake (i := 8) (v := (.agg #[.int .u64 kn, .int .i64 kp])) 76 rfl (by kernel_rfl) (by kernel_rfl) (by kernel_rfl) (by kernel_rfl) (fun _ _ _ h => h) (.inl ⟨by kernel_rfl, fun w' hS => by (have hc := hS.1; have hc2 := hS.2.1; go_simp)⟩) hHeld ?_
          (try simp only [Act.put, List.setIfInBounds_toArray, List.set_cons_zero, List.set_cons_succ])
          refine wpAnyH_ready (rs := [7]) (by kernel_rfl) (by simp) (AllReadyH.cons rfl (fun K hK => ?_) AllReadyH.nil)
          clear hHeld
          rw [if_pos (by kernel_rfl)]
          go_simp
          refine PL.mono ?_
          rintro e wd ⟨rfl, hBd⟩
          have hSd := And.intro (cell_later hBd hSc.1) (And.intro (cell_later hBd hSc.2.1) (Nat.lt_of_lt_of_le hSc.2.2 hBd.size))
          have HCd := Lib.hid (HCc.out.below hBd)
          have HBd := Lib.hid (HB9.out.trans ((HBc.out.trans (hBd.mono HBc.out.size)).mono HB9.out.size))
          refine hK.out _ _ hSd (fun hHeld => ?_)
          clear hK K PL hBd HCc HBc HCb HBb hSb hSc
          (try simp only [Act.put, List.setIfInBounds_toArray, List.set_cons_zero, List.set_cons_succ])
          have hq := held_key14
          refine stake (i := 9) (v := (.bool false)) 77 rfl (by kernel_rfl) (by kernel_rfl) (by kernel_rfl) (by kernel_rfl) (fun _ _ _ h => h) (.inl ⟨by kernel_rfl, fun w' hS => by (go_simp)⟩) hHeld ?_
          (try simp only [Act.put, List.setIfInBounds_toArray, List.set_cons_zero, List.set_cons_succ])
          refine stake (i := 10) (v := (.bool false)) 78 rfl (by kernel_rfl) (by kernel_rfl) (by kernel_rfl) (by kernel_rfl) (fun _ _ _ h => h) (.inl ⟨by kernel_rfl, fun w' hS => by (go_simp)⟩) hHeld ?_
          (try simp only [Act.put, List.setIfInBounds_toArray, List.set_cons_zero, List.set_cons_succ])
          refine wpAnyH_done (by kernel_rfl) ?_ _
          clear hHeld hSd hk0 hq
          have hEc : ∀ j, newB A w4 j → ¬ E2 j := fun j hj => HR8.out.2.2.1 j (by have := hj.2; have := HSZ.out; have := HZ8.out; have := HC8.out.lim j hj; have h7 := HV87.out; omega) (fun he => by have := HR7.out.2.2 j he; have := hj.1; omega)
          have HEC := Lib.hid hEc
          have hBwd := HB8.out.trans (HBd.out.mono HB8.out.size)
          have HSd : Hid (CpO (newB A w4) w wd wd gc k (runO O0 (l.take k)) (.slice none 0 0) 0 (outK O0 l k k)) := Lib.hid (by rw [outK_start]; exact CpO.start HCd.out (fun j hj => by have := hj.1; have := HSZ.out; omega) hBwd)
          have HR9 := Lib.hid (And.intro (HR8.out.1.below HBd.out) (And.intro (HR8.out.2.2.2.1.below HBd.out) HR8.out.2.2.2.2))
          have HW70 := Lib.hid hBwd.size
          clear hEc hBwd HCd HR8 HC8 HO8 HV8
          go_upto_region 21 with fail
          go_loopw [14, 16] (fun so si wr => ∃ (i : Nat) (xa : Option Addr) (yn xc : Nat), k ≤ i ∧ i ≤ len ∧ so = .slice xa yn xc ∧ si = .int .i64 i ∧ Hid (CpO (newB A w4) w wd wr gc i (runO O0 (l.take i)) (.slice xa yn xc) yn (outK O0 l k i))) (fun _ si _ => len - (intOf si).toNat)
          case atStart => exact ⟨k, none, 0, 0, Nat.le_refl _, by omega, rfl, rfl, HSd⟩
          case round =>
            clear HSd
            obtain ⟨i, za, zn, zc, hki, hi, rfl, rfl, HS⟩ := hrel
            by_cases hlt3 : i < len
            · obtain ⟨b, o, x, rfl, hx, hb, hc⟩ := HL.out.atO (show i < len by omega)
              have hxm := List.mem_of_getElem? hx
              have hcr : ∀ c v, (encO x)[c]? = some v → wr.cell? ⟨b, o + i * 10 + c, none⟩ = some v := fun c v hv => cell_later HS.out.bel (hc c v hv)
              have c0 := hcr 0 _ rfl
              have c1 := hcr 1 _ rfl
              have c2 := hcr 2 _ rfl
              have c3 := hcr 3 _ rfl
              have c4 := hcr 4 _ rfl
              have c5 := hcr 5 _ rfl
              have c6 := hcr 6 _ rfl
              have c7 := hcr 7 _ rfl
              have c8 := hcr 8 _ rfl
              have c9 := hcr 9 _ rfl
              rw [Nat.add_zero] at c0
              have P := HS.out.act (by omega) x ((HO.out x hxm).below HS.out.bel) (by have := HDL.out x hxm; omega)
              have HST := Lib.hid (outK_step O0 l k i x (by omega) hx)
              have HRT := Lib.hid (runO_take O0 l i x hx)
              rw [← HRT.out] at P
              have HFW2 := Lib.hid (outK_few l HNEW.out.1 HNEW.out.2 HON.out k (i + 1) (by omega))
              rw [HST.out, List.length_append] at HFW2
              generalize (stepO (runO O0 (l.take i)) x).2 = yl at *
              clear hcr hc hx hxm HS
              obtain ⟨kind, p, ⟨f, q, s, v, da, dl, dc, deps, text⟩, seq, st⟩ := x
              simp only at c0 c1 c2 c3 c4 c5 c6 c7 c8 c9
              unfold encO at P
              go_wp2_with fail
              refine P.mono ?_
              rintro e w8 ⟨ra, rn, rc, X, Y, rfl, hA, hX, hY⟩
              obtain ⟨q1, q2, q3, q4, q5⟩ := hA.own
              have hn2 : zn + rn ≤ 200000 := by
                have h1 := congrArg List.length hX
                have h2 := congrArg List.length hY
                rw [List.length_map] at h1 h2
                have := HFW2.out
                omega
              have HA := Lib.hid (And.intro hA (And.intro hX hY))
              have HQ := Lib.hid (And.intro q1 (And.intro q2 q3))
              have HN2 := Lib.hid hn2
              have HBS := Lib.hid hA.size
              clear P hA hX hY q1 q2 q3 q4 q5 hn2 c0 c1 c2 c3 c4 c5 c6 c7 c8 c9 HFW2
              go_wp2_with (at_builtin; refine wpList_append_at rfl (.tmp 86) (.tmp 93) rfl wd.heap.size (.slice za zn zc) zn X rfl HQ.out.1 ra rn rc Y rfl HQ.out.2.1 HQ.out.2.2 HN2.out HBS.out ?_; intro v9 w9 h1 h2 h3)
              obtain ⟨ya, yc, rfl⟩ := own_form' h1
              have HS9 := Lib.hid (HA.out.1.app (by have := HW70.out; omega) h1 h2 h3)
              rw [HA.out.2.1, HA.out.2.2, ← HST.out] at HS9
              clear h1 h2 h3 HA HQ HN2 HBS HST HRT
              go_roundw
              case rel => exact ⟨i + 1, ya, zn + rn, yc, by omega, by omega, rfl, by go_num, HS9⟩
              case measure => simp [intOf]; omega
            · obtain rfl : i = len := by omega
              obtain ⟨E3, Y3, r1, r2, r3, r4, r5⟩ := HS.out.ex
              have hkeep := HS.out.keep
              have hs9 := HS.out.size
              obtain ⟨k1, k2, k3⟩ := HR9.out
              have ho := k1.kept hs9 fun j hj => hkeep j (k1.lim j hj) (fun hc => HEC.out j hc hj)
              have hw4 : w4.heap.size ≤ w7.heap.size := by have := HSZ.out; have := HV87.out; omega
              have hxo := own_kept k2.own fun j hj => hkeep j (own_ltD k2.own j hj) (fun hc => by have := (own_typ k2.own j hj).1; have := hc.2; omega)
              have hxd : ∀ x ∈ X2, DpIn wr x ∧ x.dl ≤ 1048576 := fun x hx => by
                have h1 := k2.deps x hx
                have h2 := h1.kept (w' := wr) fun ad e => hkeep _ (h1.lt ad e) (fun hc => by have := (h1.typ ad e).1.1; have := hc.2; omega)
                exact ⟨h2.deps, h2.few⟩
              have hfx := outK_few l HNEW.out.1 HNEW.out.2 HON.out k i hki
              have hxn : xn ≤ 1048576 := by
                rw [← k3, List.length_map, k2.len] at hfx
                omega
              have PA := all_rows14 (sc := xc) (tc := zc) (own_lst' encG_length k2.len hxo) r4.lst hxd (fun y hy => (r4.deps y hy).deps) (by rw [k3, r5]) hxn
              have HA := Lib.hid (And.intro r1 ho)
              have HB := Lib.hid HS.out.bel
              generalize runO O0 (l.take i) = P at *
              clear r1 r2 r3 r4 r5 hkeep hs9 k1 k2 k3 ho hxo hxd hfx hxn HS HR9
              go_wp2_with (first | (go_at_call 14; (with_reducible refine PA.mono ?_); rintro e wa ⟨rfl, hG⟩) | fail)
              have hB1 := hG.below
              have PR := orest (HA.out.1.below hB1) (by omega)
              have HB1 := Lib.hid hB1
              clear PA hG hB1
              go_wp2_with (first | (go_at_call 15; (with_reducible refine PR.mono ?_); rintro e wb ⟨⟨ta, tn, tc⟩, Y1, rfl, hO1, hI1, hBb, hfw1⟩) | fail)
              have hB2 := HB1.out.trans (hBb.mono HB1.out.size)
              have PR2 := orest (HA.out.2.below hB2) (by omega)
              have HO1 := Lib.hid (And.intro hO1 (And.intro hI1 hfw1))
              have HB2 := Lib.hid hB2
              clear PR hO1 hI1 hBb hfw1 hB2 HB1
              go_wp2_with (first | (go_at_call 15; (with_reducible refine PR2.mono ?_); rintro e wc ⟨⟨ua, un, uc⟩, Y2, rfl, hO2, hI2, hBc, hfw2⟩) | fail)
              have hO1c := HO1.out.1.below hBc
              have PA := all_rows14 (sc := tc) (tc := uc) hO1c.slot.lst hO2.slot.lst (fun x hx => ⟨(hO1c.deps x hx).deps, (hO1c.deps x hx).few⟩) (fun y hy => (hO2.deps y hy).deps) (HO1.out.2.1.one hI2) (show tn ≤ 1048576 by have : tn ≤ 64000 := HO1.out.2.2; omega)
              have hB3 := HB2.out.trans (hBc.mono HB2.out.size)
              have HB3 := Lib.hid hB3
              clear PR2 hO2 hI2 hBc hfw2 hO1c hB3 HB2 HO1
              go_wp2_with (first | (go_at_call 14; (with_reducible refine PA.mono ?_); rintro e wd' ⟨rfl, hG⟩) | fail)
              have hB4 := HB3.out.trans (hG.below.mono HB3.out.size)
              have PL := olast (HA.out.1.below hB4)
              have HB4 := Lib.hid hB4
              clear PA hG hB4 HB3
              go_wp2_with (first | (go_at_call 13; (with_reducible refine PL.mono ?_); rintro e we ⟨rfl, hBe⟩) | fail)
              have hB5 := HB4.out.trans (hBe.mono HB4.out.size)
              have PL2 := olast (HA.out.2.below hB5)
              have HB5 := Lib.hid hB5
              have hq := held_key14
              clear PL hBe hB5 HB4
              go_wp2_with (first | (go_at_call 13; (with_reducible refine PL2.mono ?_); rintro e wf ⟨rfl, hBf⟩) | fail)
              go_ret
              exact ⟨rfl, HB.out.trans ((HB5.out.trans (hBf.mono HB5.out.size)).mono HB.out.size)⟩
theorem walk_OrderCopies {w : World} (a : Int) (wa : (Lit.int .u64 a).wf = true) (ao : Option Addr) (len cap : Nat) (l : List OA) (hl : Lst encO 10 w ao len l ∧ ∀ m ∈ l, m.ok w) (n : Int) (wn : (Lit.int .i64 n).wf = true) :
    Calls Try.prog 6 #[.int .u64 a, .slice ao len cap, .int .i64 n] w fun e w' => e = .returned (.bool true) ∧ Below w.heap.size w w' := by
  have a0 := Go.bounds_u64 wa
  have b0 := Go.bounds_i64 wn
  obtain ⟨a, rfl⟩ := Int.eq_ofNat_of_zero_le (show 0 ≤ a by omega)
  exact copies_core a (by omega) ao len cap l n (by omega) (by omega) w hl.1 hl.2
end Go.Proofs.Ytlkmenjalpmipaa
