/- The walk of 'CrcBack'. -/
import Derived.Test.YtbalgnhnipeafaaCrcAwake
import Derived.BigRegion
set_option linter.unusedVariables false
set_option linter.unusedSimpArgs false
namespace Go.Proofs.Ytbalgnhnipeafaa
open Go.RowKit

theorem wf_i64 {a : Int} (h : (Lit.int .i64 a).wf = true) : -9223372036854775808 ≤ a ∧ a ≤ 9223372036854775807 := by
  have := Go.bounds_i64 h
  omega
theorem wf_u8 {a : Int} (h : (Lit.int .u8 a).wf = true) : 0 ≤ a ∧ a ≤ 255 := by
  have := Go.bounds_u8 h
  omega
/-- A text of one byte. -/
def oneB (c : Nat) : ByteArray := ⟨#[UInt8.ofNat c]⟩
theorem oneB_size (c : Nat) : (oneB c).size = 1 := rfl
theorem oneB_nats {c : Nat} (h : c < 256) : nats (oneB c) = [c] := by
  unfold nats oneB
  simp only [List.map_cons, List.map_nil, UInt8.toNat_ofNat']
  rw [Nat.mod_eq_of_lt (by omega)]
theorem conv_one (W : World) (c : Nat) (hc : c < 256) (g : Nat) (hg : W.heap.size = g) :
    (convert 30 9 (.slice (some ⟨g, 0, none⟩) 1 1)).run Try.prog (W.alloc (.cells #[.int .u8 (c : Int)] 5)) = .ok (.string (oneB c)) (W.alloc (.cells #[.int .u8 (c : Int)] 5)) := by
  subst hg
  have h := run_convert_bytes_back (P := Try.prog) (W.alloc (.cells #[.int .u8 (c : Int)] 5)) 30 9 5 ⟨W.heap.size, 0, none⟩ 1
    [UInt8.ofNat c] Try.underlying30 Try.underlying5 Try.underlying9 (fun j hj => by
      match j, hj with
      | 0, _ => simp [Addr.add]; omega
      | j + 1, h => simp at h)
  exact h

theorem openS_not {x : ByteArray} (h : okB x = false) : openS x = { data := #[] } := by unfold openS; rw [h]; rfl
/-- What was sealed, with one byte turned, isn't. -/
theorem turned_text (s : ByteArray) (q m : Nat) (hq : q < (sealz s).size) (hm : 0 < m) (hm' : m < 256) :
    okB ((sealz s).extract 0 q ++ oneB ((sealz s)[q].toNat ^^^ m) ++ (sealz s).extract (q + 1) (sealz s).size) = false := by
  have hb : (nats (sealz s))[q]? = some (sealz s)[q].toNat := nats_at hq
  have hx : (sealz s)[q].toNat ^^^ m < 256 := xor_byte (sealz s)[q].toNat_lt hm'
  have hl : (nats (sealz s)).length = (sealz s).size := nats_length _
  have e : nats ((sealz s).extract 0 q ++ oneB ((sealz s)[q].toNat ^^^ m) ++ (sealz s).extract (q + 1) (sealz s).size) = (nats (sealz s)).set q ((sealz s)[q].toNat ^^^ m) := by
    rw [nats_append, nats_append, oneB_nats hx, nats_extract, nats_extract, List.drop_zero, Nat.sub_zero, List.set_eq_take_append_cons_drop, if_pos (by omega),
      List.take_of_length_le (l := (nats (sealz s)).drop (q + 1)) (by rw [List.length_drop, hl]; exact Nat.le_refl _)]
    simp
  unfold okB
  rw [e, sealz_nats] 
  rw [sealz_nats] at hb
  refine decide_eq_false (turned_not (nats_bytes s) q _ m hb hm hm' ?_)
  intro b h
  rcases List.mem_or_eq_of_mem_set h with h1 | h1
  · exact seal_bytes (nats_bytes s) b h1
  · rw [h1]; exact hx

set_option maxHeartbeats 2000000 in
theorem walk_CrcBack (s : ByteArray) (ws : s.size ≤ maxLen) (at_ : Int) (wat : (Lit.int .i64 at_).wf = true) (mask : Int) (wm : (Lit.int .u8 mask).wf = true) (w : World) :
    Calls Try.prog 4 #[.string s, .int .i64 at_, .int .u8 mask] w fun e w' => e = .returned (.bool true) ∧ Below w.heap.size w w' := by
  obtain ⟨t0, t1⟩ := wf_i64 wat
  obtain ⟨m0, m1⟩ := wf_u8 wm
  have hs' : (s.size : Int) ≤ 9223372036854775807 := by unfold maxLen at ws; omega
  have mixed : Try.prog.follows .mixedOrders = true := by kernel_rfl
  by_cases h1 : (5000 : Int) < s.size
  · go_enter Try.func4, Try.ntmps4
    go_wp2_with fail
    refine (awake_any _).mono ?_
    rintro e w1 ⟨rfl, G1⟩
    go_wp2
    go_ret
    exact ⟨rfl, G1.below⟩
  have hzs := sealz_size s
  have p1 := fun W => seal_any s W (by omega)
  have p2 := fun W => open_any (sealz s) W (by omega)
  rw [openS_seal, okB_seal] at p2
  have HT := Lib.hid (turned_text s)
  have hz4 : (sealz s).size ≤ s.size + 4 := by omega
  have hz5 : s.size + 4 ≤ (sealz s).size := by omega
  have hs3 : s.size ≤ 5000 := by omega
  clear hzs hs' h1 ws wat wm
  generalize sealz s = z at *
  have hne : (((z.size : Nat) : Int) == (s.size : Int) + 4) = true := by simp; omega
  by_cases h2 : at_ < 0
  · clear HT
    go_enter Try.func4, Try.ntmps4
    go_wp2_with fail
    refine (awake_any _).mono ?_
    rintro e w1 ⟨rfl, G1⟩
    go_wp2_with fail
    refine (p1 _).mono ?_
    rintro e w2 ⟨rfl, G2⟩
    go_wp2_with fail
    refine (p2 _).mono ?_
    rintro e w3 ⟨rfl, G3⟩
    go_wp2
    go_ret
    exact ⟨rfl, ((G1.trans G2).trans G3).below⟩
  by_cases h3 : (z.size : Int) ≤ at_
  · clear HT
    go_enter Try.func4, Try.ntmps4
    go_wp2_with fail
    refine (awake_any _).mono ?_
    rintro e w1 ⟨rfl, G1⟩
    go_wp2_with fail
    refine (p1 _).mono ?_
    rintro e w2 ⟨rfl, G2⟩
    go_wp2_with fail
    refine (p2 _).mono ?_
    rintro e w3 ⟨rfl, G3⟩
    go_wp2
    go_ret
    exact ⟨rfl, ((G1.trans G2).trans G3).below⟩
  obtain ⟨q, rfl⟩ := Int.eq_ofNat_of_zero_le (show 0 ≤ at_ by omega)
  obtain ⟨m, rfl⟩ := Int.eq_ofNat_of_zero_le m0
  have hq : q < z.size := by omega
  have hd1 : decide ((q : Int) < 0) = false := by simp
  have hd2 : decide (z.size ≤ q) = false := by simp; omega
  have hd3 : decide ((z.size : Int) ≤ (q : Int)) = false := by simp; omega
  by_cases hm : m = 0
  · subst hm
    clear HT
    go_enter Try.func4, Try.ntmps4
    go_wp2_with fail
    refine (awake_any _).mono ?_
    rintro e w1 ⟨rfl, G1⟩
    go_wp2_with fail
    refine (p1 _).mono ?_
    rintro e w2 ⟨rfl, G2⟩
    go_wp2_with fail
    refine (p2 _).mono ?_
    rintro e w3 ⟨rfl, G3⟩
    go_wp2
    go_ret
    exact ⟨rfl, ((G1.trans G2).trans G3).below⟩
  have hdm : ((m : Int) == 0) = false := by simp; omega
  have hm255 : m < 256 := by omega
  have HV := Lib.hid (HT.out q m hq (by omega) hm255)
  have hx := xor_u8 z[q].toNat m z[q].toNat_lt hm255
  have hc := xor_byte z[q].toNat_lt hm255
  clear HT h2 h3 hm m0 m1 t0 t1
  generalize z[q].toNat ^^^ m = c at *
  go_enter Try.func4, Try.ntmps4
  go_wp2_with fail
  refine (awake_any _).mono ?_
  rintro e w1 ⟨rfl, G1⟩
  go_wp2_with fail
  refine (p1 _).mono ?_
  rintro e w2 ⟨rfl, G2⟩
  go_wp2_with fail
  refine (p2 _).mono ?_
  rintro e w3 ⟨rfl, G3⟩
  have cv : (convert 30 9 (.slice (some ⟨w3.heap.size, 0, none⟩) 1 1)).run Try.prog (w3.alloc (.cells #[.int .u8 (c : Int)] 5)).drew = .ok (.string (oneB c)) (w3.alloc (.cells #[.int .u8 (c : Int)] 5)).drew := conv_one w3.drew c hc w3.heap.size rfl
  have hzo : (oneB c).size ≤ 1 := Nat.le_of_eq rfl
  generalize oneB c = y at *
  have hq1 : q + 1 ≤ z.size := by omega
  have hq2 : (q : Int) + 1 ≤ (z.size : Int) := by omega
  have hq3 : q ≤ z.size := by omega
  have hv1 : (z.extract 0 q).size ≤ 6000 := by rw [ByteArray.size_extract]; omega
  have hv2 : (z.extract (q + 1) z.size).size ≤ 6000 := by rw [ByteArray.size_extract]; omega
  have hv3 : (z.extract 0 q ++ y).size ≤ 6001 := by rw [ByteArray.size_append]; omega
  have hv4 : (z.extract 0 q ++ y ++ z.extract (q + 1) z.size).size ≤ 12001 := by rw [ByteArray.size_append]; omega
  have ho := fun W => open_any (z.extract 0 q ++ y ++ z.extract (q + 1) z.size) W (by omega)
  rw [openS_not HV.out, HV.out] at ho
  go_wp2
  go_region
  go_wp2_with fail
  refine (ho _).mono ?_
  rintro e w4 ⟨rfl, G4⟩
  go_wp2
  go_ret
  exact ⟨rfl, ((((G1.trans G2).trans G3).alloc _).drew.trans G4).below⟩
end Go.Proofs.Ytbalgnhnipeafaa
