/- The document's Get. -/
import Derived.Test.YtafenlacacghoaaRhKit
set_option linter.unusedVariables false
set_option linter.unusedSimpArgs false
namespace Go.Proofs.Ytafenlacacghoaa
open Go.RowKit Go.Sort

theorem find_at {α : Type} {l : List α} {pr : α → Bool} {k : Nat} {x : α} (hx : l[k]? = some x) (hp : pr x = true) (hn : ∀ m ∈ l.take k, pr m = false) : l.find? pr = some x := by
  obtain ⟨hlt, e⟩ := List.getElem?_eq_some_iff.1 hx
  have h : l = l.take k ++ x :: l.drop (k + 1) := by
    conv => lhs; rw [← List.take_append_drop k l, List.drop_eq_getElem_cons hlt, e]
  rw [h, List.find?_append, List.find?_eq_none.2 (fun m hm => by rw [hn m hm]; simp)]
  simp [hp]
/-- Which message the document's Get looks for. -/
def isA (lo : Nat → Nat) (p : Int) (seq : Nat) (m : Mg) : Bool := m.f == p && (m.q == (seq : Int) && decide (onP 0 lo p < seq))
def findA (L : List Mg) (lo : Nat → Nat) (p : Int) (seq : Nat) : Option Mg := L.find? (isA lo p seq)
/-- What the document's Get answers. -/
inductive RGet (w : World) : Option Mg → Ending → World → Prop
  | no (w' : World) (h : Below w.heap.size w w') : RGet w none (.returned (.tuple #[valG zeroG, .bool false])) w'
  | yes (m : Mg) (w' : World) (h : Below w.heap.size w w') : RGet w (some m) (.returned (.tuple #[valG m, .bool true])) w'
set_option maxHeartbeats 8000000 in
set_option maxRecDepth 100000 in
theorem rh_get (s : Sl) (lo : Nat → Nat) (L : List Mg) (p : Int) (seq : Nat) (hq : seq < 4294967296) (w : World) (hl : Lst encG 6 w s.a s.n L) (hn : s.n ≤ 1000) (hf : ∀ m ∈ L, 0 ≤ m.f ∧ m.f < 64) :
    Calls Try.prog 16 #[.agg (rhC s lo).toArray, .int .i64 p, .int .u32 (seq : Int)] w (RGet w (findA L lo p seq)) := by
  have B1 := RhB.new w s lo
  have G1 := (Grw.refl w).alloc (.cells (rhC s lo).toArray 34)
  have G2 := G1.alloc (.cells #[.int .i64 0, .int .u32 0, .int .u64 0, .int .i64 0, .slice none 0 0, .string { data := #[] }] 37)
  have B2 := B1.below (((Grw.refl _).alloc (.cells #[.int .i64 0, .int .u32 0, .int .u64 0, .int .i64 0, .slice none 0 0, .string { data := #[] }] 37)).below)
  have hs1 : (w.alloc (.cells (rhC s lo).toArray 34)).heap.size = w.heap.size + 1 := by simp
  have M2 : MgB ((w.alloc (.cells (rhC s lo).toArray 34)).alloc (.cells #[.int .i64 0, .int .u32 0, .int .u64 0, .int .i64 0, .slice none 0 0, .string { data := #[] }] 37)) (w.heap.size + 1) zeroG := by
    have := MgB.new (w.alloc (.cells (rhC s lo).toArray 34)) zeroG
    rw [hs1] at this
    exact this
  have c0 := B2.c0
  have HCL := Lib.hid (fun (k : Nat) (hk : k < 64) => B2.cl k hk)
  have HM := Lib.hid M2
  have HG := Lib.hid G2.below
  have HL := Lib.hid (Lst.below hl G2.below)
  have HF := Lib.hid hf
  obtain ⟨sa, sn, sc⟩ := s
  simp only at c0 hl hn HL
  generalize (rhC ⟨sa, sn, sc⟩ lo).toArray = C at *
  clear hl hf B1 B2 G1 G2 M2 hs1
  go_enter Try.func16, Try.ntmps16
  go_upto_region 1 with fail
  generalize (w.alloc (.cells C 34)).alloc (.cells #[.int .i64 0, .int .u32 0, .int .u64 0, .int .i64 0, .slice none 0 0, .string { data := #[] }] 37) = W at *
  obtain ⟨rb, hrb⟩ : ∃ rb, rb = w.heap.size + 1 := ⟨_, rfl⟩
  rw [← hrb] at HM
  try rw [← hrb]
  have HRB : Hid (w.heap.size ≤ rb) := Lib.hid (by omega)
  clear hrb
  generalize hhb : w.heap.size = hb at *
  have HHB := Lib.hid hhb
  clear hhb
  go_wp2
  go_loopw [8] (fun si wr => ∃ k : Nat, k ≤ sn ∧ si = .int .i64 k ∧ wr = W ∧ Hid (∀ m ∈ L.take k, isA lo p seq m = false)) (fun si _ => sn - (intOf si).toNat)
  case atStart => exact ⟨0, Nat.zero_le _, rfl, rfl, Lib.hid fun m hm => by simp at hm⟩
  case round =>
    obtain ⟨k, hk, rfl, rfl, HNF⟩ := hrel
    by_cases hlt : k < sn
    · obtain ⟨b, o, x, rfl, hx, hb1, hc⟩ := HL.out.atG hlt
      have hkl := (List.getElem?_eq_some_iff.1 hx).1
      have HT := Lib.hid (show L.take (k + 1) = L.take k ++ [x] by rw [List.take_succ_eq_append_getElem hkl, (List.getElem?_eq_some_iff.1 hx).2])
      have HX := Lib.hid hx
      have hfx := HF.out x (List.mem_of_getElem? hx)
      have d0 := hc 0 _ rfl
      have d1 := hc 1 _ rfl
      have d2 := hc 2 _ rfl
      have d3 := hc 3 _ rfl
      have d4 := hc 4 _ rfl
      have d5 := hc 5 _ rfl
      rw [Nat.add_zero] at d0
      have HNX : Hid (isA lo p seq x = false → ∀ m ∈ L.take (k + 1), isA lo p seq m = false) := Lib.hid fun h m hm => by
        rw [HT.out] at hm
        rcases List.mem_append.1 hm with e | e
        · exact HNF.out m e
        · rw [List.mem_singleton.1 e]; exact h
      have HYX : Hid (isA lo p seq x = true → findA L lo p seq = some x) := Lib.hid fun h => find_at HX.out h HNF.out
      clear hc hx hkl HT HX HNF
      obtain ⟨f, q, sx, v, a, dl, dc, deps, text⟩ := x
      simp only at d0 d1 d2 d3 d4 d5 hfx
      by_cases he : f = p
      · subst he
        obtain ⟨j, rfl⟩ := Int.eq_ofNat_of_zero_le hfx.1
        have hj : j < 64 := by omega
        have hjz : (j : Int) < 64 := by omega
        by_cases hqe : q = (seq : Int)
        · subst hqe
          have e1 := HCL.out j hj
          have hon : onP 0 lo (j : Int) = lo j := onP_yes _ _ _ hj
          by_cases hs : lo j < seq
          · have HE := Lib.hid (HYX.out (by unfold isA; rw [hon]; simp [hs]))
            have hsz : (lo j : Int) < (seq : Int) := by omega
            generalize lo j = lj at *
            clear HYX HNX hon hs
            go_wp2_with (refine store_mg rfl (.tmp 6) (.tmp 46) rfl rb ⟨(j : Int), (seq : Int), sx, v, a, dl, dc, deps, text⟩ rfl rfl HM.out ?_)
            (try simp only [Exit.inBlock, Exit.then])
            rw [HE.out]
            have hhb := HHB.out
            subst hhb
            exact bodyPost_ret (v := .tuple #[valG ⟨(j : Int), (seq : Int), sx, v, a, dl, dc, deps, text⟩, .bool true]) (results_mg2 (p := 6) (u := 7) rfl _ _ rb rfl (HM.out.row _)) rfl (.yes _ _ (belowRow10 HG.out _ HRB.out _))
          · have HE := Lib.hid (HNX.out (by unfold isA; rw [hon]; simp [hs]))
            have hsz : ¬ (lo j : Int) < (seq : Int) := by omega
            generalize lo j = lj at *
            clear HYX HNX hon hs
            go_wp2
            go_roundw
            case rel => exact ⟨k + 1, by omega, by go_num, trivial, HE⟩
            case measure => simp [intOf]; omega
        · have HE := Lib.hid (HNX.out (by unfold isA; simp [hqe]))
          have hq2 : (q == (seq : Int)) = false := by simpa using hqe
          clear HYX HNX hqe
          go_wp2
          go_roundw
          case rel => exact ⟨k + 1, by omega, by go_num, trivial, HE⟩
          case measure => simp [intOf]; omega
      · have HE := Lib.hid (HNX.out (by unfold isA; simp [he]))
        have he2 : (f == p) = false := by simpa using he
        clear HYX HNX he hfx
        go_wp2
        go_roundw
        case rel => exact ⟨k + 1, by omega, by go_num, trivial, HE⟩
        case measure => simp [intOf]; omega
    · have hE : findA L lo p seq = none := List.find?_eq_none.2 fun m hm => by
        have := HNF.out m (by rw [List.take_of_length_le (by rw [HL.out.size]; omega)]; exact hm)
        rw [this]; simp
      have HE := Lib.hid hE
      clear hE HNF
      go_wp2_with (refine store_mg rfl (.tmp 6) (.tmp 47) rfl rb zeroG rfl rfl HM.out ?_)
      (try simp only [Exit.inBlock, Exit.then])
      rw [HE.out]
      have hhb := HHB.out
      subst hhb
      exact bodyPost_ret (v := .tuple #[valG zeroG, .bool false]) (results_mg2 (p := 6) (u := 7) rfl _ _ rb rfl (HM.out.row zeroG)) rfl (.no _ (belowRow10 HG.out _ HRB.out _))
end Go.Proofs.Ytafenlacacghoaa
