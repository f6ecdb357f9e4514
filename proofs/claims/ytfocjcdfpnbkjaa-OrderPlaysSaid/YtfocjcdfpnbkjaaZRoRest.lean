/- The document's order: Rest. -/
import Derived.Test.YtfocjcdfpnbkjaaZRoTrims
import Derived.Test.YtfocjcdfpnbkjaaZRhFroms
import Derived.Test.YtfocjcdfpnbkjaaZOrdOpens
set_option linter.unusedVariables false
set_option maxRecDepth 100000
set_option linter.unusedSimpArgs false
namespace Go.Proofs.Ytfocjcdfpnbkjaa
open Go.RowKit Go.Sort

/-- Is a message left? -/
def leftR (dn : Nat → Nat) (m : Mg) : Bool := decide ((dn m.f.toNat : Int) < m.q)
/-- What the document's Rest answers. -/
def RRest (w : World) (dn : Nat → Nat) (O : List Mg) (e : Ending) (w' : World) : Prop :=
  ∃ a n c M, e = .returned (.slice a n c) ∧ IsSrt Mg.key O M ∧ Lst encG 6 w' a n (M.filter (leftR dn)) ∧ Below w.heap.size w w'
theorem RoB.first (w : World) (r : Ro) : RoB (w.alloc (.cells r.cs.toArray 41)) w.heap.size r ∧ Below w.heap.size w (w.alloc (.cells r.cs.toArray 41)) := ⟨RoB.new w r, ((Grw.refl w).alloc _).below⟩
set_option maxHeartbeats 4000000 in
theorem ro_rest (r : Ro) (L : List Mg) (T : List Td) (w : World) (hV : RoV w r L T) (hf : ∀ m ∈ L, 0 ≤ m.f ∧ m.f < 64) (hmem : ∀ x ∈ catF (outAll L r.lo) ⟨0, -1⟩ 64, x ∈ L) (hcl : (catF (outAll L r.lo) ⟨0, -1⟩ 64).length ≤ 100000) :
    Calls Try.prog 22 #[.agg r.cs.toArray] w (RRest w r.dn (catF (outAll L r.lo) ⟨0, -1⟩ 64)) := by
  have F := Lib.hid (RoB.first w r)
  have HV := Lib.hid (hV.below F.out.2)
  have HF := Lib.hid hf
  have HM := Lib.hid hmem
  have PA := rh_above r.hs r.lo L (w.alloc (.cells r.cs.toArray 41)) HV.out.hold.lst HV.out.few hf ⟨0, -1⟩
  have hLn : L.length ≤ 1000 := by rw [HV.out.hold.len]; exact HV.out.few
  clear hV hf hmem
  go_enter Try.func22, Try.ntmps22
  go_upto_region 1 with fail
  generalize w.alloc (.cells r.cs.toArray 41) = W at *
  generalize he0 : w.heap.size = e0 at *
  have HE0 := Lib.hid he0
  clear he0
  go_wp2_with (first | (refine load_hold rfl (.tmp 6) rfl e0 r rfl F.out.1 ?_) | fail)
  with_reducible refine PA.mono ?_
  rintro e w1 hs
  obtain ⟨ao, n, c, M, rfl, hsr, hl, hB⟩ := hs
  have HSR := Lib.hid hsr
  have HL := Lib.hid hl
  have HB := Lib.hid hB
  have R1 := Lib.hid (F.out.1.below hB)
  have HB1 := Lib.hid (F.out.2.trans (hB.mono (by have := F.out.2.size; have := HE0.out; omega)))
  have hn : n ≤ 100000 := by rw [← hl.size, hsr.fil.length]; exact hcl
  have hMm : Hid (∀ x ∈ M, x ∈ L) := Lib.hid fun x hx => HM.out x ((hsr.fil.mem x).1 hx)
  clear PA hsr hl hB
  go_wp2_with fail
  clear hcl
  go_loopw [3, 5] (fun so si wr => ∃ (i : Nat) (a : Option Addr) (m c : Nat), i ≤ n ∧ si = .int .i64 i ∧ so = .slice a m c ∧ Hid (wr.ownsRow w1.heap.size 47 6 (.slice a m c) m (flat encG ((M.take i).filter (leftR r.dn))) ∧ ((M.take i).filter (leftR r.dn)).length = m ∧ Below w1.heap.size w1 wr)) (fun _ si _ => n - (intOf si).toNat)
  case atStart => exact ⟨0, none, 0, 0, Nat.zero_le _, rfl, rfl, Lib.hid ⟨by rw [List.take_zero]; exact World.ownsRow_nil _ _ _ _, by rw [List.take_zero]; rfl, Below.refl _ _⟩⟩
  case round =>
    obtain ⟨i, a, m, c', hi, rfl, rfl, HS⟩ := hrel
    by_cases hlt : i < n
    · obtain ⟨b, o, e, hr⟩ := HL.out.src (show 0 < n by omega)
      subst e
      have hil : i < M.length := by rw [HL.out.size]; exact hlt
      have hx := List.getElem?_eq_getElem hil
      have hxm := hMm.out _ (List.getElem_mem hil)
      obtain ⟨x, hx0⟩ : ∃ x, x = M[i] := ⟨_, rfl⟩
      rw [← hx0] at hx hxm
      have hc : ∀ k v, (encG x)[k]? = some v → wr.cell? ⟨b, o + i * 6 + k, none⟩ = some v := fun k v hv => cell_later HS.out.2.2 (hr i x hx k v hv)
      have hfr := HF.out x hxm
      have HT := Lib.hid (show M.take (i + 1) = M.take i ++ [x] by rw [List.take_add_one, hx]; rfl)
      obtain ⟨f, q, s, v, xa, dl, dc, deps, text⟩ := x
      simp only at hfr
      obtain ⟨k, rfl⟩ := Int.eq_ofNat_of_zero_le hfr.1
      have hk : k < 64 := by omega
      have hk' : (k : Int) < 64 := hfr.2
      have y0 := hc 0 _ rfl
      have y1 := hc 1 _ rfl
      have y2 := hc 2 _ rfl
      have y3 := hc 3 _ rfl
      have y4 := hc 4 _ rfl
      have y5 := hc 5 _ rfl
      rw [Nat.add_zero] at y0
      have cd := (R1.out.below HS.out.2.2).dn k hk
      obtain ⟨d, hd⟩ : ∃ d, d = r.dn k := ⟨_, rfl⟩
      rw [← hd] at cd
      have hml : m ≤ 100000 := by
        have h1 := HS.out.2.1
        have h2 : ((M.take i).filter (leftR r.dn)).length ≤ (M.take i).length := List.length_filter_le _ _
        rw [List.length_take] at h2
        omega
      have HML := Lib.hid hml
      clear hc hr hx hx0 hxm hfr hml
      by_cases hgt : (d : Int) < q
      · have HP : Hid ((M.take (i + 1)).filter (leftR r.dn) = (M.take i).filter (leftR r.dn) ++ [⟨(k : Int), q, s, v, xa, dl, dc, deps, text⟩]) := Lib.hid (by
          rw [HT.out, List.filter_append]
          congr 1
          rw [List.filter_cons_of_pos (by unfold leftR; rw [Int.toNat_natCast, ← hd]; simpa using hgt)]; rfl)
        clear hd
        go_upto_region 6 with fail
        go_quiet (fail)
        have D := ((Grw.refl wr).drewN nq).below
        have OW := Lib.hid (And.intro (own_later HS.out.1 D) (HS.out.2.2.trans (D.mono HS.out.2.2.size)))
        have z0 : (wr.drewN nq).cell? ⟨b, o + i * 6, none⟩ = some (.int .i64 (k : Int)) := y0
        have z1 : (wr.drewN nq).cell? ⟨b, o + i * 6 + 1, none⟩ = some (.int .u32 q) := y1
        have z2 : (wr.drewN nq).cell? ⟨b, o + i * 6 + 2, none⟩ = some (.int .u64 s) := y2
        have z3 : (wr.drewN nq).cell? ⟨b, o + i * 6 + 3, none⟩ = some (.int .i64 v) := y3
        have z4 : (wr.drewN nq).cell? ⟨b, o + i * 6 + 4, none⟩ = some (.slice xa dl dc) := y4
        have z5 : (wr.drewN nq).cell? ⟨b, o + i * 6 + 5, none⟩ = some (.string text) := y5
        have HLEN := Lib.hid HS.out.2.1
        clear y0 y1 y2 y3 y4 y5 cd HS D
        generalize wr.drewN nq = w5 at *
        have L6 := ((Grw.refl w5).alloc (.cells #[.int .i64 (k : Int), .int .u32 q, .int .u64 s, .int .i64 v, .slice xa dl dc, .string text] 47)).below
        have OW6 := Lib.hid (And.intro (own_later OW.out.1 L6) (OW.out.2.trans (L6.mono OW.out.2.size)))
        have X6 := Lib.hid (lst_one (MgB.new w5 ⟨(k : Int), q, s, v, xa, dl, dc, deps, text⟩))
        clear L6
        go_upto_region 5 with (at_builtin; refine append_mg _ rfl (.tmp 30) (.tmp 35) rfl w1.heap.size (.slice a m c') m _ rfl OW6.out.1 (some ⟨w5.heap.size, 0, none⟩) 1 1 [⟨(k : Int), q, s, v, xa, dl, dc, deps, text⟩] rfl (fun e => by cases e) X6.out (by have := HML.out; omega) OW6.out.2.size ?_; intro v8 w8 h1 h2)
        rw [← flat_append, ← HP.out] at h1
        have B8 := OW6.out.2.grown h2 OW6.out.2.size (fun g e => own_behind OW6.out.1 g e)
        obtain ⟨a8, c8, rfl⟩ := own_form' h1
        have HN := Lib.hid (And.intro h1 (And.intro (show ((M.take (i + 1)).filter (leftR r.dn)).length = m + 1 by rw [HP.out, List.length_append, HLEN.out]; rfl) B8))
        clear h1 h2 B8 OW6 OW X6 z0 z1 z2 z3 z4 z5
        go_wp2_with fail
        go_roundw
        case rel => exact ⟨i + 1, a8, m + 1, c8, by omega, by go_num, rfl, HN⟩
        case measure => simp [intOf]; omega
      · have HP : Hid ((M.take (i + 1)).filter (leftR r.dn) = (M.take i).filter (leftR r.dn)) := Lib.hid (by
          rw [HT.out, List.filter_append, List.filter_cons_of_neg (by unfold leftR; rw [Int.toNat_natCast, ← hd]; simpa using hgt)]
          simp)
        clear hd
        go_upto_region 6 with fail
        go_quiet (fail)
        have D := ((Grw.refl wr).drewN nq).below
        have HN : Hid ((wr.drewN nq).ownsRow w1.heap.size 47 6 (.slice a m c') m (flat encG ((M.take (i + 1)).filter (leftR r.dn))) ∧ ((M.take (i + 1)).filter (leftR r.dn)).length = m ∧ Below w1.heap.size w1 (wr.drewN nq)) := Lib.hid (by rw [HP.out]; exact ⟨own_later HS.out.1 D, HS.out.2.1, HS.out.2.2.trans (D.mono HS.out.2.2.size)⟩)
        clear y0 y1 y2 y3 y4 y5 cd HS D
        go_wp2_with fail
        go_roundw
        case rel => exact ⟨i + 1, a, m, c', by omega, by go_num, rfl, HN⟩
        case measure => simp [intOf]; omega
    · obtain rfl : i = n := by omega
      have HA : Hid (M.take i = M) := Lib.hid (List.take_of_length_le (by rw [HL.out.size]; exact Nat.le_refl _))
      rw [HA.out] at HS
      go_wp2
      go_ret
      exact ⟨a, m, c', M, rfl, HSR.out, own_lst' encG_length HS.out.2.1 HS.out.1, by rw [HE0.out]; exact HB1.out.trans (HS.out.2.2.mono (by have := HB1.out.size; have := HE0.out; omega))⟩
end Go.Proofs.Ytfocjcdfpnbkjaa
