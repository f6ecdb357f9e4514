/- Layer 18: behind, Last, Next, First. -/
import Derived.Test.YtlaenabckpjikaaVoKit
import Derived.Test.YtlaenabckpjikaaSetFns
set_option linter.unusedVariables false
set_option maxRecDepth 100000
set_option linter.unusedSimpArgs false
namespace Go.Proofs.Ytlaenabckpjikaa
open Go.RowKit Go.Sort

set_option maxHeartbeats 1000000 in
theorem vbehind {w : World} {ao : Option Addr} {n : Nat} {L : List Vw} (h : VwL w ao n L) (c N : Nat) (hN : N < 18446744073709551616) (hn : n ≤ 100000) :
    Calls Try.prog 27 #[.slice ao n c, .int .u64 (N : Int)] w fun e w' => ∃ v, e = .returned v ∧ w'.ownsRow w.heap.size 31 4 v (behindV L N).length (flat encV (behindV L N)) ∧ Below w.heap.size w w' := by
  have HL := Lib.hid h
  have HLEN := Lib.hid h.at_.size
  clear h
  go_enter Try.func27, Try.ntmps27
  go_wp2
  go_loopw [5, 10] (fun sv si wr => ∃ k : Nat, k ≤ n ∧ si = .int .i64 k ∧ Aside (Below w.heap.size w wr) ∧ Aside (wr.ownsRow w.heap.size 31 4 sv (behindV (L.take k) N).length (flat encV (behindV (L.take k) N)))) (fun _ si _ => n - (intOf si).toNat)
  case atStart => exact ⟨0, Nat.zero_le _, rfl, Below.refl _ _, World.ownsRow_nil _ _ _ _⟩
  case round =>
    obtain ⟨k, hk, rfl, HB, HO⟩ := hrel
    by_cases hlt : k < n
    · obtain ⟨b, o, x, rfl, hx, hr, hok⟩ := (HL.out.below HB.out).row hlt
      have HR := Lib.hid hr
      have HS := Lib.hid (show behindV (L.take (k + 1)) N = if N < x.n then behindV (L.take k) N ++ [x] else behindV (L.take k) N by rw [take_snoc hx, behindV_snoc])
      have HLn := Lib.hid (behindV_le (L.take k) N)
      have HTk : (L.take k).length ≤ n := by rw [List.length_take, HLEN.out]; omega
      have B4 := ((Grw.refl wr).alloc (.cells #[.int .u64 (x.n : Int), .int .u64 (x.e : Int), .int .i64 x.r, .int .u64 (x.m : Int)] 31)).below
      have X4 := Lib.hid (VwB.new wr x)
      have HB4 := Lib.hid (HB.out.trans (B4.mono HB.out.size))
      have HO4 := Lib.hid (own_below18 HO.out B4)
      clear hr hx B4 HB HO
      obtain ⟨P, hP⟩ : ∃ P, P = behindV (L.take k) N := ⟨_, rfl⟩
      rw [← hP] at HS HLn HO4
      clear hP
      obtain ⟨vn, ve, vr, vm⟩ := x
      unfold encV at HR
      have hvn := hok.n
      simp only at hvn
      go_upto_region 5 with (first | (refine load_vwm rfl (.tmp 12) rfl b (o + k * 4) ⟨vn, ve, vr, vm⟩ rfl HR.out ?_) | fail)
      generalize wr.alloc (.cells #[.int .u64 vn, .int .u64 ve, .int .i64 vr, .int .u64 vm] 31) = w4 at *
      generalize wr.heap.size = mb at *
      clear HR
      have c0 : w4.cell? ⟨mb, 0, none⟩ = some (.int .u64 vn) := X4.out.own.at_ 0 _ rfl
      have c1 : w4.cell? ⟨mb, 1, none⟩ = some (.int .u64 ve) := X4.out.own.at_ 1 _ rfl
      have c2 : w4.cell? ⟨mb, 2, none⟩ = some (.int .i64 vr) := X4.out.own.at_ 2 _ rfl
      have c3 : w4.cell? ⟨mb, 3, none⟩ = some (.int .u64 vm) := X4.out.own.at_ 3 _ rfl
      by_cases hgt : N < vn
      · have HS2 : Hid (behindV (L.take (k + 1)) N = P ++ [⟨vn, ve, vr, vm⟩]) := Lib.hid (by rw [HS.out, if_pos hgt])
        clear HS
        go_upto_region 6 with fail
        have L8 := ((Grw.refl w4).alloc (.cells #[.int .u64 vn, .int .u64 ve, .int .i64 vr, .int .u64 vm] 31)).below
        have HO5 := Lib.hid (own_below18 HO4.out L8)
        have N8 := Lib.hid (vw_lst (VwB.new w4 ⟨vn, ve, vr, vm⟩))
        have HB5 := Lib.hid (HB4.out.trans (L8.mono HB4.out.size))
        clear L8
        go_wp2_with (at_builtin; refine append_vw _ rfl (.tmp 18) (.tmp 20) rfl w.heap.size _ _ _ rfl HO5.out (some ⟨w4.heap.size, 0, none⟩) 1 1 _ rfl (fun h => by cases h) N8.out (by have := HLn.out; omega) HB5.out.size ?_; intro v9 w9 h1 h2)
        rw [← flat_append] at h1
        have HB9 := Lib.hid (grown_below HB5.out (Nat.le_refl _) HO5.out h2)
        have HO9 := Lib.hid (own_eq h1 (show P.length + 1 = (behindV (L.take (k + 1)) N).length by rw [HS2.out]; simp) (show _ = flat encV (behindV (L.take (k + 1)) N) by rw [HS2.out]))
        clear h1 h2 HB5 HO5 N8 HO4 HB4 X4 c0 c1 c2 c3 HS2
        go_wp2
        go_roundw
        case rel => exact ⟨k + 1, by omega, by go_num, HB9.out, HO9.out⟩
        case measure => simp [intOf]; omega
      · have HS2 : Hid (behindV (L.take (k + 1)) N = P) := Lib.hid (by rw [HS.out, if_neg hgt])
        clear HS
        have HO9 := Lib.hid (own_eq HO4.out (show P.length = (behindV (L.take (k + 1)) N).length by rw [HS2.out]) (show _ = flat encV (behindV (L.take (k + 1)) N) by rw [HS2.out]))
        clear HO4 HS2
        go_wp2
        go_roundw
        case rel => exact ⟨k + 1, by omega, by go_num, HB4.out, HO9.out⟩
        case measure => simp [intOf]; omega
    · obtain rfl : k = n := by omega
      have HF : behindV (L.take k) N = behindV L N := by rw [List.take_of_length_le (by rw [HLEN.out]; exact Nat.le_refl _)]
      have HO := Lib.hid (own_eq HO.out (congrArg List.length HF) (congrArg (flat encV) HF))
      clear HF
      go_wp2
      go_ret
      exact ⟨_, rfl, HO.out, HB.out⟩
theorem rangeAt_own {w : World} {g : Nat} {ty : TypeId} {cs : Array Value} (h : Own w g ty cs) (o : Nat) (vs : List Value) (hv : ∀ j u, vs[j]? = some u → cs[o + j]? = some u) : w.rangeAt g o vs := fun j u hj => h.at_ (o + j) u (hv j u hj)
theorem RcB.head {w : World} {g : Nat} {x : Rc} (h : RcB w g x) : w.rangeAt g 0 (encV x.p.last) := rangeAt_own h 0 _ fun j u hj => by
  rw [Nat.zero_add]
  match j, hj with
  | 0, hj => exact hj
  | 1, hj => exact hj
  | 2, hj => exact hj
  | 3, hj => exact hj
  | j + 4, hj => simp [encV] at hj
set_option maxHeartbeats 2000000 in
theorem vlast {w : World} {ao : Option Addr} {n : Nat} {l : List Rc} (h : RcL w ao n l) (c : Nat) (hn : n ≤ 100000) :
    Calls Try.prog 11 #[.slice ao n c] w fun e w' => e = .returned (valV (lastR (psL l))) ∧ Below w.heap.size w w' := by
  have HL := Lib.hid h
  have HLEN := Lib.hid h.at_.size
  clear h
  have L1 := ((Grw.refl w).alloc (.cells #[.int .u64 0, .int .u64 0, .int .i64 0, .int .u64 0] 31)).below
  have R1 := VwB.zero w
  have L2 := ((Grw.refl (w.alloc (.cells #[.int .u64 0, .int .u64 0, .int .i64 0, .int .u64 0] 31))).alloc (.cells #[.int .u64 0, .int .u64 0, .int .i64 0, .int .u64 0] 31)).below
  have R2 := Lib.hid (R1.later L2)
  have S2 := Lib.hid (VwB.zero (w.alloc (.cells #[.int .u64 0, .int .u64 0, .int .i64 0, .int .u64 0] 31)))
  have B2 := Lib.hid (L1.trans (L2.mono L1.size))
  have hs1 : (w.alloc (.cells #[.int .u64 0, .int .u64 0, .int .i64 0, .int .u64 0] 31)).heap.size = w.heap.size + 1 := by simp
  clear L1 L2 R1
  go_enter Try.func11, Try.ntmps11
  go_upto_region 3 with fail
  generalize (w.alloc (.cells #[.int .u64 0, .int .u64 0, .int .i64 0, .int .u64 0] 31)).alloc (.cells #[.int .u64 0, .int .u64 0, .int .i64 0, .int .u64 0] 31) = w2 at *
  rw [hs1] at S2
  go_loopw [8] (fun si wr => ∃ k : Nat, k ≤ n ∧ si = .int .i64 k ∧ Aside (Below w.heap.size w wr) ∧ Aside (VwB wr w.heap.size zeroV) ∧ Aside (VwB wr (w.heap.size + 1) (lastR (psL (l.take k))))) (fun si _ => n - (intOf si).toNat)
  case atStart => exact ⟨0, Nat.zero_le _, rfl, B2.out, R2.out, S2.out⟩
  case round =>
    obtain ⟨k, hk, rfl, HB, HR0, HS0⟩ := hrel
    clear R2 S2 B2
    by_cases hlt : k < n
    · obtain ⟨b, o, x, rfl, hx, hr, hin⟩ := (HL.out.below HB.out).row hlt
      have HR := Lib.hid hr
      have hlk : (psL (l.take k) = []) = (k = 0) := by
        unfold psL
        rw [List.map_eq_nil_iff, List.take_eq_nil_iff]
        have : l ≠ [] := fun e => by have := HLEN.out; rw [e] at this; simp at this; omega
        simp [this]
      have HS := Lib.hid (show lastR (psL (l.take (k + 1))) = if k = 0 ∨ (lastR (psL (l.take k))).n < x.p.last.n then x.p.last else lastR (psL (l.take k)) by rw [psL_take hx, lastR_snoc]; simp only [hlk])
      have hvl := hin.last.n
      have B4 := ((Grw.refl wr).alloc (.cells #[.int .u64 (x.p.last.n : Int), .int .u64 (x.p.last.e : Int), .int .i64 x.p.last.r, .int .u64 (x.p.last.m : Int), .slice x.a x.k x.c] 34)).below
      have X4 := Lib.hid (RcB.new wr x)
      have HB4 := Lib.hid (HB.out.trans (B4.mono HB.out.size))
      have HR4 := Lib.hid (HR0.out.later B4)
      have HS4 := Lib.hid (HS0.out.later B4)
      obtain ⟨T, hT⟩ : ∃ T, T = lastR (psL (l.take k)) := ⟨_, rfl⟩
      rw [← hT] at HS HS4
      clear hr hx B4 HB HR0 HS0 hlk hT
      obtain ⟨⟨⟨vn, ve, vr, vm⟩, pe⟩, pa, pk, pc⟩ := x
      obtain ⟨tn, te, tr, tm⟩ := T
      unfold encRc at HR
      simp only at hvl
      go_upto_region 5 with (first | (refine load_rcm rfl (.tmp 11) rfl b (o + k * 5) ⟨⟨⟨vn, ve, vr, vm⟩, pe⟩, pa, pk, pc⟩ rfl HR.out ?_) | fail)
      generalize wr.alloc (.cells #[.int .u64 vn, .int .u64 ve, .int .i64 vr, .int .u64 vm, .slice pa pk pc] 34) = w4 at *
      generalize wr.heap.size = mb at *
      clear HR
      have c0 : w4.cell? ⟨mb, 0, none⟩ = some (.int .u64 vn) := X4.out.own.at_ 0 _ rfl
      have d0 : w4.cell? ⟨w.heap.size + 1, 0, none⟩ = some (.int .u64 tn) := HS4.out.own.at_ 0 _ rfl
      have HX := Lib.hid X4.out.head
      by_cases hyes : k = 0 ∨ tn < vn
      · have HT2 : Hid (lastR (psL (l.take (k + 1))) = ⟨vn, ve, vr, vm⟩) := Lib.hid (by rw [HS.out, if_pos hyes])
        have R5 : Hid (VwB (w4.setRow (w.heap.size + 1) (encV ⟨vn, ve, vr, vm⟩).toArray) w.heap.size zeroV) := Lib.hid (Own.is (setRow_other _ _ _ _ (by omega) |>.trans HR4.out))
        have S5 : Hid (VwB (w4.setRow (w.heap.size + 1) (encV ⟨vn, ve, vr, vm⟩).toArray) (w.heap.size + 1) (lastR (psL (l.take (k + 1))))) := Lib.hid (by rw [HT2.out]; exact HS4.out.row _)
        have B5 : Hid (Below w.heap.size w (w4.setRow (w.heap.size + 1) (encV ⟨vn, ve, vr, vm⟩).toArray)) := Lib.hid (belowRow18 HB4.out _ (by omega) _)
        clear HT2 HS HR4 HB4
        by_cases hk0 : k = 0
        · subst hk0
          go_wp2_with (first | (refine load_vwm rfl (.tmp 23) rfl mb 0 ⟨vn, ve, vr, vm⟩ rfl HX.out ?_) | (refine store_vw rfl (.tmp 3) (.tmp 24) rfl (w.heap.size + 1) ⟨vn, ve, vr, vm⟩ rfl rfl HS4.out ?_))
          go_roundw
          case rel => exact ⟨1, by omega, by go_num, B5.out, R5.out, S5.out⟩
          case measure => simp [intOf]; omega
        · have hlt2 : tn < vn := by omega
          clear hyes
          go_wp2_with (first | (refine load_vwm rfl (.tmp 23) rfl mb 0 ⟨vn, ve, vr, vm⟩ rfl HX.out ?_) | (refine store_vw rfl (.tmp 3) (.tmp 24) rfl (w.heap.size + 1) ⟨vn, ve, vr, vm⟩ rfl rfl HS4.out ?_))
          go_roundw
          case rel => exact ⟨k + 1, by omega, by go_num, B5.out, R5.out, S5.out⟩
          case measure => simp [intOf]; omega
      · have HT2 : Hid (lastR (psL (l.take (k + 1))) = ⟨tn, te, tr, tm⟩) := Lib.hid (by rw [HS.out, if_neg hyes])
        have S5 : Hid (VwB w4 (w.heap.size + 1) (lastR (psL (l.take (k + 1))))) := Lib.hid (by rw [HT2.out]; exact HS4.out)
        have hk0 : ¬k = 0 := fun e => hyes (.inl e)
        have hlt2 : ¬tn < vn := fun e => hyes (.inr e)
        clear hyes HS HT2
        go_wp2
        go_roundw
        case rel => exact ⟨k + 1, by omega, by go_num, HB4.out, HR4.out, S5.out⟩
        case measure => simp [intOf]; omega
    · obtain rfl : k = n := by omega
      have HF : lastR (psL (l.take k)) = lastR (psL l) := by rw [List.take_of_length_le (by rw [HLEN.out]; exact Nat.le_refl _)]
      have HS1 := Lib.hid (show VwB wr (w.heap.size + 1) (lastR (psL l)) by rw [← HF]; exact HS0.out)
      have B5 := Lib.hid (belowRow18 HB.out w.heap.size (Nat.le_refl _) (encV (lastR (psL l))).toArray)
      have R5 := Lib.hid (HR0.out.row (lastR (psL l)))
      clear HF HS0
      obtain ⟨T, hT⟩ : ∃ T, T = lastR (psL l) := ⟨_, rfl⟩
      rw [← hT] at HS1 B5 R5
      have HTE := Lib.hid hT
      clear hT
      go_wp2_with (first | (refine load_vw rfl (.tmp 3) rfl (w.heap.size + 1) rfl HS1.out ?_) | (refine store_vw rfl (.tmp 2) (.tmp 26) rfl w.heap.size T rfl rfl HR0.out ?_))
      (try simp only [Exit.inBlock, Exit.then])
      exact bodyPost_ret (results_vw rfl _ _ w.heap.size rfl R5.out) rfl ⟨by rw [HTE.out], B5.out⟩
set_option maxHeartbeats 2000000 in
theorem vnext {w : World} {ao : Option Addr} {n : Nat} {l : List Rc} (h : RcL w ao n l) (c : Nat) (hn : n ≤ 100000) (hk : ∀ x ∈ l, x.k ≤ 100000) :
    Calls Try.prog 18 #[.slice ao n c] w fun e w' => e = .returned (.int .u64 (nextV (psL l) : Nat)) ∧ Below w.heap.size w w' := by
  have HL := Lib.hid h
  have HLEN := Lib.hid h.at_.size
  have HK := Lib.hid hk
  clear h hk
  go_enter Try.func18, Try.ntmps18
  go_wp2
  go_loopw [3, 10] (fun ms si wr => ∃ k : Nat, k ≤ n ∧ ms = .int .u64 (mxN (numsV (psL (l.take k))) : Nat) ∧ si = .int .i64 k ∧ Aside (Below w.heap.size w wr)) (fun _ si _ => n - (intOf si).toNat)
  case atStart => exact ⟨0, Nat.zero_le _, rfl, rfl, Below.refl _ _⟩
  case round =>
    obtain ⟨k, hk, rfl, rfl, HB⟩ := hrel
    by_cases hlt : k < n
    · obtain ⟨b, o, x, rfl, hx, hr, hin⟩ := (HL.out.below HB.out).row hlt
      have HR := Lib.hid hr
      have hxk := HK.out x (List.mem_of_getElem? hx)
      have hvl := hin.last.n
      have HM := Lib.hid (show mxN (numsV (psL (l.take (k + 1)))) = mxN (numsV (psL (l.take k)) ++ x.p.last.n :: x.p.pend.map Vw.n) by rw [psL_take hx, numsV_snoc]; rfl)
      have hM0 := mxN_lt (numsV (psL (l.take k))) 18446744073709551616 (by decide) (numsV_lt _ (fun r hr => (HL.out.ok r (List.map_subset _ (List.take_subset _ _) hr))))
      have B4 := ((Grw.refl wr).alloc (.cells #[.int .u64 (x.p.last.n : Int), .int .u64 (x.p.last.e : Int), .int .i64 x.p.last.r, .int .u64 (x.p.last.m : Int), .slice x.a x.k x.c] 34)).below
      have X4 := Lib.hid (RcB.new wr x)
      have HP4 := Lib.hid (hin.pend.below B4)
      have HB4 := Lib.hid (HB.out.trans (B4.mono HB.out.size))
      obtain ⟨T, hT⟩ : ∃ T, T = numsV (psL (l.take k)) := ⟨_, rfl⟩
      rw [← hT] at HM hM0
      try rw [← hT]
      clear hr hx B4 HB hin hT
      obtain ⟨⟨⟨vn, ve, vr, vm⟩, pe⟩, pa, pk, pc⟩ := x
      unfold encRc at HR
      simp only at hvl hxk
      go_upto_region 5 with (first | (refine load_rcm rfl (.tmp 12) rfl b (o + k * 5) ⟨⟨⟨vn, ve, vr, vm⟩, pe⟩, pa, pk, pc⟩ rfl HR.out ?_) | fail)
      generalize wr.alloc (.cells #[.int .u64 vn, .int .u64 ve, .int .i64 vr, .int .u64 vm, .slice pa pk pc] 34) = w4 at *
      generalize wr.heap.size = mb at *
      clear HR
      have c0 : w4.cell? ⟨mb, 0, none⟩ = some (.int .u64 vn) := X4.out.own.at_ 0 _ rfl
      have c4 : w4.cell? ⟨mb, 4, none⟩ = some (.slice pa pk pc) := X4.out.own.at_ 4 _ rfl
      go_upto_region 7 with fail
      clear c0 c4
      have HPL := Lib.hid HP4.out.at_.size
      have W4 := Lib.hid (Below.refl w4.heap.size w4)
      go_loopw [3, 22] (fun ms si wi => ∃ j : Nat, j ≤ pk ∧ ms = .int .u64 (mxN (T ++ vn :: (pe.take j).map Vw.n) : Nat) ∧ si = .int .i64 j ∧ Aside (Below w4.heap.size w4 wi)) (fun _ si _ => pk - (intOf si).toNat)
      case atStart => exact ⟨0, Nat.zero_le _, by rw [List.take_zero, List.map_nil, mxN_snoc]; congr 1; omega, rfl, W4.out⟩
      case round =>
        obtain ⟨j, hj, rfl, rfl, HI⟩ := hrel
        by_cases hjl : j < pk
        · obtain ⟨b', o', v, rfl, hv, hr, hok⟩ := (HP4.out.below HI.out).row hjl
          have HR := Lib.hid hr
          have hvn := hok.n
          have HJ := Lib.hid (show mxN (T ++ vn :: (pe.take (j + 1)).map Vw.n) = max (mxN (T ++ vn :: (pe.take j).map Vw.n)) v.n by
            rw [take_snoc hv, List.map_append, ← List.cons_append, ← List.append_assoc]
            exact mxN_snoc _ _)
          have B5 := ((Grw.refl wr).alloc (.cells #[.int .u64 (v.n : Int), .int .u64 (v.e : Int), .int .i64 v.r, .int .u64 (v.m : Int)] 31)).below
          have X5 := Lib.hid (VwB.new wr v)
          have HB5 := Lib.hid (HI.out.trans (B5.mono HI.out.size))
          obtain ⟨U, hU⟩ : ∃ U, U = mxN (T ++ vn :: (pe.take j).map Vw.n) := ⟨_, rfl⟩
          rw [← hU] at HJ
          try rw [← hU]
          clear hr hv B5 HI hU
          obtain ⟨un, ue, ur, um⟩ := v
          unfold encV at HR
          simp only at hvn
          go_upto_region 9 with (first | (refine load_vwm rfl (.tmp 24) rfl b' (o' + j * 4) ⟨un, ue, ur, um⟩ rfl HR.out ?_) | fail)
          generalize wr.alloc (.cells #[.int .u64 un, .int .u64 ue, .int .i64 ur, .int .u64 um] 31) = w5 at *
          generalize wr.heap.size = mb5 at *
          clear HR
          have c0 : w5.cell? ⟨mb5, 0, none⟩ = some (.int .u64 un) := X5.out.own.at_ 0 _ rfl
          go_wp2
          go_roundw
          case rel => exact ⟨j + 1, by omega, by rw [HJ.out]; show _ = Value.int .u64 ((max U un : Nat) : Int); congr 1; omega, by go_num, HB5.out⟩
          case measure => simp [intOf]; omega
        · obtain rfl : j = pk := by omega
          have HF := Lib.hid (show mxN (numsV (psL (l.take (k + 1)))) = mxN (T ++ vn :: (pe.take j).map Vw.n) by rw [HM.out, List.take_of_length_le (by rw [HPL.out]; exact Nat.le_refl _)])
          have HB5 := Lib.hid (HB4.out.trans (HI.out.mono HB4.out.size))
          go_wp2
          go_roundw
          case rel => exact ⟨k + 1, by omega, by rw [HF.out], by go_num, HB5.out⟩
          case measure => simp [intOf]; omega
    · obtain rfl : k = n := by omega
      have HF := Lib.hid (show nextV (psL l) = upN (mxN (numsV (psL (l.take k)))) by rw [List.take_of_length_le (by rw [HLEN.out]; exact Nat.le_refl _)]; rfl)
      have hM0 := mxN_lt (numsV (psL (l.take k))) 18446744073709551616 (by decide) (numsV_lt _ (fun r hr => (HL.out.ok r (List.map_subset _ (List.take_subset _ _) hr))))
      obtain ⟨T, hT⟩ : ∃ T, T = mxN (numsV (psL (l.take k))) := ⟨_, rfl⟩
      rw [← hT] at HF hM0
      try rw [← hT]
      clear hT
      go_wp2
      go_ret
      refine ⟨?_, HB.out⟩
      rw [HF.out]
      show Ending.returned (.int .u64 (max (T : Int) (IntKind.u64.wrap ((T : Int) + 1)))) = _
      congr 2
      rw [IntKind.wrap_u64]
      unfold upN
      split <;> omega
/-- The record at the beginning. -/
def firstR (n : Int) : Rc := ⟨⟨⟨0, 0, 0, below n⟩, []⟩, none, 0, 0⟩
theorem RcB.zero (w : World) : RcB (w.alloc (.cells #[.int .u64 0, .int .u64 0, .int .i64 0, .int .u64 0, .slice none 0 0] 34)) w.heap.size ⟨⟨zeroV, []⟩, none, 0, 0⟩ := Own.new w _ _
theorem vfirst (n : Int) (w : World) (h0 : -9223372036854775808 ≤ n) (h1 : n ≤ 9223372036854775807) :
    Calls Try.prog 10 #[.int .i64 n] w fun e w' => e = .returned (valRc (firstR n)) ∧ Below w.heap.size w w' := by
  have L1 := ((Grw.refl w).alloc (.cells #[.int .u64 0, .int .u64 0, .int .i64 0, .int .u64 0, .slice none 0 0] 34)).below
  have R1 := Lib.hid (RcB.zero w)
  have B5 := Lib.hid (belowRow18 L1 w.heap.size (Nat.le_refl _) (encRc (firstR n)).toArray)
  have R5 := Lib.hid (R1.out.row (firstR n))
  clear L1
  go_enter Try.func10, Try.ntmps10
  go_wp2_with (first | (go_at_call 20; refine (all_any n _ h0 h1).mono ?_; rintro e w' ⟨rfl, rfl⟩) | (refine store_rc rfl (.tmp 2) (.tmp 6) rfl w.heap.size (firstR n) rfl rfl R1.out ?_))
  (try simp only [Exit.inBlock, Exit.then])
  exact bodyPost_ret (results_rc rfl _ _ w.heap.size rfl R5.out) rfl ⟨rfl, B5.out⟩
theorem firstR_in (n : Int) (w : World) : RcIn w (firstR n) := ⟨⟨⟨rfl, fun h => absurd h (Nat.lt_irrefl 0)⟩, fun v hv => by cases hv⟩, ⟨by show 0 < _; decide, by show 0 < _; decide, by show _ ≤ (0 : Int); decide, by show (0 : Int) ≤ _; decide, below_lt n⟩, fun _ => rfl⟩
end Go.Proofs.Ytlaenabckpjikaa
