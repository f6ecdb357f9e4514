/- The walk of 'CrcBursts'. -/
import Derived.Test.YtbalgnhnipeafaaCrcAwake
import Derived.BigRegion
set_option linter.unusedVariables false
set_option linter.unusedSimpArgs false
namespace Go.Proofs.Ytbalgnhnipeafaa
open Go.RowKit

theorem wf_i64 {a : Int} (h : (Lit.int .i64 a).wf = true) : -9223372036854775808 ≤ a ∧ a ≤ 9223372036854775807 := by
  have := Go.bounds_i64 h
  omega
theorem wf_u32 {a : Int} (h : (Lit.int .u32 a).wf = true) : 0 ≤ a ∧ a ≤ 4294967295 := by
  have := Go.bounds_u32 h
  omega
/-- A block of the call's own, whose first cells hold bytes. -/
structure Hold (w : World) (g : Nat) (l : List Nat) : Prop where
  lt : g < w.heap.size
  cell : ∀ j b, l[j]? = some b → w.cell? ⟨g, j, none⟩ = some (.int .u8 (b : Nat))
  free : ∀ j, j < l.length → w.frozen? ⟨g, j, none⟩ = false

theorem Hold.bytes (W : World) (z : ByteArray) (c : Nat) : Hold (W.alloc (.cells (bytesRow z c) 5 ((bytesRow z c).size, (bytesRow z c).size + 1))) W.heap.size (nats z) where
  lt := by simp
  cell := fun j b hj => by
    have hlt : j < z.size := by have := (List.getElem?_eq_some_iff.1 hj).1; rw [nats_length] at this; exact this
    rw [nats_at hlt] at hj
    cases hj
    rw [World.cell?_alloc_mark, bytesRow_at z c j hlt]
  free := fun j hj => by
    rw [nats_length] at hj
    have hs : z.size ≤ (bytesRow z c).size := by
      simp [bytesRow]
    rw [World.frozen?_alloc_mark]
    have h2 : decide ((bytesRow z c).size ≤ j) = false := by simp; omega
    rw [h2]; rfl
theorem Hold.drew {w : World} {g : Nat} {l : List Nat} (h : Hold w g l) : Hold w.drew g l := ⟨h.lt, h.cell, h.free⟩
theorem Hold.set {w : World} {g : Nat} {l : List Nat} (h : Hold w g l) (j x : Nat) : Hold (w.setCell ⟨g, j, none⟩ (.int .u8 (x : Nat))) g (l.set j x) where
  lt := by simp; exact h.lt
  cell := fun k b hk => by
    by_cases e : k = j
    · subst e
      have hlt : k < l.length := by have := (List.getElem?_eq_some_iff.1 hk).1; rw [List.length_set] at this; exact this
      rw [List.getElem?_set_self hlt] at hk
      cases hk
      refine World.cell?_setCell_same' _ _ _ ?_
      rw [h.cell k _ (List.getElem?_eq_getElem hlt)]; rfl
    · rw [List.getElem?_set_ne (Ne.symm e)] at hk
      rw [World.cell?_setCell_other _ _ _ _ (by intro e2; injection e2; omega)]
      exact h.cell k b hk
  free := fun k hk => by
    rw [List.length_set] at hk
    rw [World.frozen?_setCell]
    exact h.free k hk
theorem and_bit (m i : Nat) (hm : m < 4294967296) : bits .and .u32 ((m : Int) / 2 ^ i) 1 = ((m / 2 ^ i % 2 : Nat) : Int) := by
  have h := and1_u32 (m / 2 ^ i) (Nat.lt_of_le_of_lt (Nat.div_le_self _ _) hm)
  rw [← h]
  simp

/-- Bytes as a text. -/
def ofN (l : List Nat) : ByteArray := ⟨(l.map UInt8.ofNat).toArray⟩
theorem ofN_nats {l : List Nat} (h : Bytes l) : nats (ofN l) = l := by
  unfold nats ofN
  simp only [List.map_map]
  conv => rhs; rw [← List.map_id l]
  apply List.map_congr_left
  intro b hb
  simp only [Function.comp, UInt8.toNat_ofNat', id]
  exact Nat.mod_eq_of_lt (h b hb)
theorem ofN_size (l : List Nat) : (ofN l).size = l.length := by
  show ((l.map UInt8.ofNat).toArray).size = _
  simp
theorem conv_hold (w : World) (g : Nat) (l : List Nat) (n cap : Nat) (h : Hold w g l) (hb : Bytes l) (hn : l.length = n) :
    (convert 30 9 (.slice (some ⟨g, 0, none⟩) n cap)).run Try.prog w = .ok (.string (ofN l)) w := by
  have hc := run_convert_bytes_back (P := Try.prog) w 30 9 5 ⟨g, 0, none⟩ cap (l.map UInt8.ofNat) Try.underlying30 Try.underlying5 Try.underlying9 (fun j hj => by
    have hj' : j < l.length := by simpa using hj
    have := h.cell j _ (List.getElem?_eq_getElem hj')
    rw [show (⟨g, 0, none⟩ : Addr).add j = ⟨g, j, none⟩ by cases j <;> simp [Addr.add], this, List.getElem_map, UInt8.toNat_ofNat', Nat.mod_eq_of_lt (by have := hb _ (List.getElem_mem hj'); omega)])
  rw [List.length_map, hn] at hc
  exact hc
theorem xor_pow (x r : Nat) (hx : x < 256) (hr : r < 8) : bits .xor .u8 (x : Int) (2 ^ r % 256) = ((x ^^^ 2 ^ r : Nat) : Int) := by
  have hp : 2 ^ r < 256 := Nat.lt_of_lt_of_le (Nat.pow_lt_pow_right (by decide) hr) (by decide)
  have e : (2 ^ r % 256 : Int) = ((2 ^ r : Nat) : Int) := by
    rw [Int.natCast_pow]
    have : ((2 ^ r : Nat) : Int) < 256 := by omega
    rw [Int.natCast_pow] at this
    exact Int.emod_eq_of_lt (Int.pow_nonneg (by decide)) this
  rw [e]
  exact xor_u8 x (2 ^ r) hx hp

set_option maxHeartbeats 2000000 in
theorem walk_CrcBursts (s : ByteArray) (ws : s.size ≤ maxLen) (at_ : Int) (wat : (Lit.int .i64 at_).wf = true) (burst : Int) (wb : (Lit.int .u32 burst).wf = true) (w : World) :
    Calls Try.prog 5 #[.string s, .int .i64 at_, .int .u32 burst] w fun e w' => e = .returned (.bool true) ∧ Below w.heap.size w w' := by
  obtain ⟨t0, t1⟩ := wf_i64 wat
  obtain ⟨m0, m1⟩ := wf_u32 wb
  have hs' : (s.size : Int) ≤ 9223372036854775807 := by unfold maxLen at ws; omega
  have mixed : Try.prog.follows .mixedOrders = true := by kernel_rfl
  by_cases h1 : (5000 : Int) < s.size
  · go_enter Try.func5, Try.ntmps5
    go_wp2_with fail
    refine (awake_any _).mono ?_
    rintro e w1 ⟨rfl, G1⟩
    go_wp2
    go_ret
    exact ⟨rfl, G1.below⟩
  by_cases h2 : burst = 0
  · have hd : (burst == 0) = true := by simp; exact h2
    clear h2
    go_enter Try.func5, Try.ntmps5
    go_wp2_with fail
    refine (awake_any _).mono ?_
    rintro e w1 ⟨rfl, G1⟩
    go_wp2
    go_ret
    exact ⟨rfl, G1.below⟩
  have hd : (burst == 0) = false := by simp; exact h2
  have hzs := sealz_size s
  have p1 := fun W => seal_any s W (by omega)
  have hz4 : (sealz s).size ≤ s.size + 4 := by omega
  have hz5 : s.size + 4 ≤ (sealz s).size := by omega
  have HB := Lib.hid (bursts · · (nats_bytes s))
  rw [← sealz_nats] at HB
  have hs3 : s.size ≤ 5000 := by omega
  clear hzs hs' h1 ws wat wb
  generalize sealz s = z at *
  have hbs := fun W => run_bytes_of_string (P := Try.prog) W 9 30 5 z Try.underlying9 Try.underlying30 Try.underlying5
  by_cases h3 : at_ < 0
  · clear HB
    go_enter Try.func5, Try.ntmps5
    go_wp2_with fail
    refine (awake_any _).mono ?_
    rintro e w1 ⟨rfl, G1⟩
    go_wp2_with fail
    refine (p1 _).mono ?_
    rintro e w2 ⟨rfl, G2⟩
    go_wp2
    go_ret
    exact ⟨rfl, (((G1.trans G2).alloc _).drew).below⟩
  by_cases h4 : 8 * (z.size : Int) < at_
  · clear HB
    go_enter Try.func5, Try.ntmps5
    go_wp2_with fail
    refine (awake_any _).mono ?_
    rintro e w1 ⟨rfl, G1⟩
    go_wp2_with fail
    refine (p1 _).mono ?_
    rintro e w2 ⟨rfl, G2⟩
    go_wp2
    go_ret
    exact ⟨rfl, (((G1.trans G2).alloc _).drew).below⟩
  obtain ⟨q, rfl⟩ := Int.eq_ofNat_of_zero_le (show 0 ≤ at_ by omega)
  obtain ⟨m, rfl⟩ := Int.eq_ofNat_of_zero_le m0
  have hq : q ≤ 8 * z.size := by omega
  have hd1 : decide ((q : Int) < 0) = false := by simp
  have hd2 : decide (8 * (z.size : Int) < (q : Int)) = false := by simp; omega
  have hm32 : m < 4294967296 := by omega
  clear h2 h3 h4 m0 m1 t0 t1
  go_enter Try.func5, Try.ntmps5
  go_wp2_with fail
  refine (awake_any _).mono ?_
  rintro e w1 ⟨rfl, G1⟩
  go_wp2_with fail
  refine (p1 _).mono ?_
  rintro e w2 ⟨rfl, G2⟩
  go_wp2_with fail
  have hH := Hold.bytes w2.drew z (grownCap w2 z.size 0 5)
  have hG := (G1.trans G2).drew.alloc (.cells (bytesRow z (grownCap w2 z.size 0 5)) 5 ((bytesRow z (grownCap w2 z.size 0 5)).size, (bytesRow z (grownCap w2 z.size 0 5)).size + 1))
  have hg : w.heap.size ≤ w2.heap.size := (G1.trans G2).below.size
  change Hold (w2.alloc _).drew w2.heap.size _ at hH
  change Grw w (w2.alloc _).drew at hG
  generalize (w2.alloc (.cells (bytesRow z (grownCap w2 z.size 0 5)) 5 ((bytesRow z (grownCap w2 z.size 0 5)).size, (bytesRow z (grownCap w2 z.size 0 5)).size + 1))).drew = w3 at *
  generalize w2.heap.size = g at *
  generalize grownCap w2 z.size 0 5 = cap at *
  have HL := Lib.hid (nats_length z)
  have HH := Lib.hid hH
  have HG := Lib.hid hG
  clear hH hG hbs
  go_loopw [8, 9] (fun sa si wr => ∃ i : Nat, i ≤ 32 ∧ si = .int .i64 i ∧ sa = .bool (decide (lying (nats z).length q m i ≠ 0)) ∧ Hold wr g (turned q m (nats z) i) ∧ Below w.heap.size w wr) (fun _ si _ => 32 - (intOf si).toNat)
  case atStart => exact ⟨0, Nat.zero_le _, rfl, rfl, HH.out, HG.out.below⟩
  case round =>
    obtain ⟨i, hi, rfl, rfl, hH, hB⟩ := hrel
    have HL2 := Lib.hid (turned_length q m (nats z) i)
    have HLb := Lib.hid (turned_bytes q m (nats_bytes z) i)
    have HTs := Lib.hid (show turned q m (nats z) (i + 1) = if m.testBit i ∧ q + i < 8 * (nats z).length then (turned q m (nats z) i).set ((q + i) / 8) ((turned q m (nats z) i).getD ((q + i) / 8) 0 ^^^ 2 ^ ((q + i) % 8)) else turned q m (nats z) i from rfl)
    have HYs := Lib.hid (show lying (nats z).length q m (i + 1) = if m.testBit i ∧ q + i < 8 * (nats z).length then lying (nats z).length q m i + 2 ^ i else lying (nats z).length q m i from rfl)
    have HW : Hid (i = 32 → okB (ofN (turned q m (nats z) i)) = !decide (lying (nats z).length q m i ≠ 0)) := Lib.hid fun e => by
      subst e
      unfold okB
      rw [ofN_nats HLb.out]
      by_cases h0 : lying (nats z).length q m 32 = 0
      · rw [decide_eq_true ((HB.out q m).2 h0), decide_eq_false (fun h => h h0)]; rfl
      · rw [decide_eq_false (fun h => h0 ((HB.out q m).1 h)), decide_eq_true h0]; rfl
    obtain ⟨L, hLt⟩ : ∃ L, L = turned q m (nats z) i := ⟨_, rfl⟩
    obtain ⟨any, hany⟩ : ∃ any, any = decide (lying (nats z).length q m i ≠ 0) := ⟨_, rfl⟩
    rw [← hLt] at HL2 HLb HTs HW hH
    rw [← hany] at HW
    rw [← hany]
    have HLT := Lib.hid hLt
    have HAN := Lib.hid hany
    clear hLt hany
    by_cases hlt : i < 32
    · have hl32 : (i : Int) < 32 := by omega
      clear hi
      have ha := and_bit m i hm32
      by_cases hbit : m / 2 ^ i % 2 = 1
      · rw [hbit] at ha
        have HBT : Hid (m.testBit i = true) := Lib.hid (by rw [bit_of, hbit]; rfl)
        clear hbit
        obtain ⟨k, hk⟩ : ∃ k, k = q + i := ⟨_, rfl⟩
        have hk2 : (q : Int) + (i : Int) = (k : Int) := by omega
        have HK := Lib.hid hk
        clear hk
        by_cases hin : k < 8 * z.size
        · have hd3 : ((k : Int) < 8 * (z.size : Int)) := by omega
          obtain ⟨j, hj⟩ : ∃ j, j = k / 8 := ⟨_, rfl⟩
          obtain ⟨r, hr⟩ : ∃ r, r = k % 8 := ⟨_, rfl⟩
          have hj2 : (k : Int) / 8 = (j : Int) := by omega
          have hr2 : (k : Int) % 8 = (r : Int) := by omega
          have hjz : j < z.size := by omega
          have hr8 : r < 8 := by omega
          have hjl : j < L.length := by rw [HL2.out, HL.out]; exact hjz
          obtain ⟨x, hx⟩ : ∃ x, L[j]? = some x := ⟨_, List.getElem?_eq_getElem hjl⟩
          have hc := hH.drew.cell j x hx
          have hf := hH.drew.free j hjl
          have hxr := xor_pow x r (HLb.out x (List.mem_of_getElem? hx)) hr8
          have HN : Hid (turned q m (nats z) (i + 1) = L.set j (x ^^^ 2 ^ r)) := Lib.hid (by
            rw [HTs.out, if_pos ⟨HBT.out, by rw [HL.out, ← HK.out]; exact hin⟩, ← HK.out, ← hj, ← hr, List.getD_eq_getElem?_getD, hx]; rfl)
          have HM : Hid (decide (lying (nats z).length q m (i + 1) ≠ 0) = true) := Lib.hid (by
            rw [HYs.out, if_pos ⟨HBT.out, by rw [HL.out, ← HK.out]; exact hin⟩]
            have := Nat.two_pow_pos i
            exact decide_eq_true (by omega))
          have HH2 := Lib.hid (hH.set j (x ^^^ 2 ^ r)).drew
          have HB2 := Lib.hid hB
          generalize x ^^^ 2 ^ r = y at *
          clear hH hx hj hr hjl hB HTs HYs HW HAN HLT HLb
          go_wp2
          go_region
          go_wp2
          go_roundw
          case rel => exact ⟨i + 1, by omega, by go_num, by rw [HM.out], by rw [HN.out]; exact HH2.out, (HB2.out.setCell hg _).drew⟩
          case measure => simp [intOf]; omega
        · have hd3 : ¬ ((k : Int) < 8 * (z.size : Int)) := by omega
          have HN : Hid (turned q m (nats z) (i + 1) = L) := Lib.hid (by
            rw [HTs.out, if_neg (by rintro ⟨_, h⟩; rw [HL.out, ← HK.out] at h; exact hin h)])
          have HM : Hid (decide (lying (nats z).length q m (i + 1) ≠ 0) = any) := Lib.hid (by
            rw [HYs.out, if_neg (by rintro ⟨_, h⟩; rw [HL.out, ← HK.out] at h; exact hin h), ← HAN.out])
          have HH2 := Lib.hid hH
          have HB2 := Lib.hid hB
          clear hH hB HTs HYs HW HAN HLT HLb hin
          go_wp2
          go_roundw
          case rel => exact ⟨i + 1, by omega, by go_num, by rw [HM.out], by rw [HN.out]; exact HH2.out, HB2.out⟩
          case measure => simp [intOf]; omega
      · have h0 : m / 2 ^ i % 2 = 0 := by omega
        rw [h0] at ha
        have HBT : Hid (m.testBit i = false) := Lib.hid (by rw [bit_of, h0]; rfl)
        have HN : Hid (turned q m (nats z) (i + 1) = L) := Lib.hid (by
          rw [HTs.out, if_neg (by rintro ⟨h, _⟩; rw [HBT.out] at h; cases h)])
        have HM : Hid (decide (lying (nats z).length q m (i + 1) ≠ 0) = any) := Lib.hid (by
          rw [HYs.out, if_neg (by rintro ⟨h, _⟩; rw [HBT.out] at h; cases h), ← HAN.out])
        have HH2 := Lib.hid hH
        have HB2 := Lib.hid hB
        clear hH hB HTs HYs HW HAN HLT HLb hbit h0
        go_wp2
        go_roundw
        case rel => exact ⟨i + 1, by omega, by go_num, by rw [HM.out], by rw [HN.out]; exact HH2.out, HB2.out⟩
        case measure => simp [intOf]; omega
    · have hl32 : ¬ (i : Int) < 32 := by omega
      have hok := HW.out (by omega)
      have hcv := conv_hold wr g L z.size cap hH HLb.out (by rw [HL2.out, HL.out])
      have hos : (ofN L).size ≤ 6000 := by rw [ofN_size, HL2.out, HL.out]; omega
      have ho := fun W => open_any (ofN L) W (by omega)
      rw [hok] at ho
      have HB2 := Lib.hid hB
      clear hok hH HTs HYs HW HAN HLT HLb hB hi
      generalize openS (ofN L) = u at *
      generalize ofN L = v at *
      go_wp2_with fail
      refine (ho _).mono ?_
      rintro e w4 ⟨rfl, G4⟩
      have HF := Lib.hid (HB2.out.trans (G4.below.mono HB2.out.size))
      cases any
      · go_wp2
        go_ret
        exact ⟨rfl, HF.out⟩
      · go_wp2
        go_ret
        exact ⟨rfl, HF.out⟩
end Go.Proofs.Ytbalgnhnipeafaa
