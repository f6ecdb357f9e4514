/- The next slot; reading a disk: the program's. -/
import Derived.Test.YtimdemidnleiiaaDiskNewest
set_option linter.unusedVariables false
set_option linter.unusedSimpArgs false
namespace Go.Proofs.Ytimdemidnleiiaa
open Go.RowKit Go.Sort

def nextI (d : Dk) : Int := if nextB d = true then 1 else 0
theorem next_at {d : Dk} (h : fndB d = true) : 1 - atD d = nextI d := by
  unfold nextI atD
  rw [next_found h]
  cases sndB d <;> rfl
theorem u64_next {n : Nat} (h : n < 18446744073709551616) : IntKind.u64.wrap ((n : Int) + 1) = (((n + 1) % 18446744073709551616 : Nat) : Int) := by rw [IntKind.wrap_u64]; omega

set_option maxHeartbeats 2000000 in
theorem dnext (d : Dk) (hd : d.ok) (s : ByteArray) (w : World) :
    Calls Try.prog 22 #[.agg #[.string d.a, .string d.b], .string s] w fun e w' => e = .returned (.tuple #[.int .i64 (nextI d), .agg #[.int .u64 (nextN d : Nat), .string s]]) ∧ Below w.heap.size w w' := by
  have hn := fun W => dnewest d hd W
  have hnd := numD_lt d
  cases hf : fndB d
  · obtain ⟨h1, h2, h3, h4⟩ := none_snd hf
    have e1 : nextI d = 0 := by unfold nextI; rw [h4]; rfl
    have e2 : nextN d = 1 := by unfold nextN; rw [h2]
    rw [e1, e2]
    rw [hf] at hn
    clear hf h1 h2 h3 h4 e1 e2 hd
    obtain ⟨a, b⟩ := d
    simp only at hn ⊢
    generalize atD ⟨a, b⟩ = p at *
    generalize numD ⟨a, b⟩ = n at *
    generalize recD ⟨a, b⟩ = t at *
    have B1 : SlB w ((w.alloc (Obj.cells #[Value.string a, Value.string b] 44)).alloc (Obj.cells #[Value.int IntKind.u64 0, Value.string { data := #[] }] 50)) a b := (Own.new w _ _).below ((Grw.refl _).alloc _).below (by simp)
    go_enter Try.func22, Try.ntmps22
    go_upto_region 1 with fail
    have R1 : RecB ((w.alloc (Obj.cells #[Value.string a, Value.string b] 44)).alloc (Obj.cells #[Value.int IntKind.u64 0, Value.string { data := #[] }] 50)) (w.heap.size + 1) 0 { data := #[] } := by
      have h := RecB.new (w.alloc (Obj.cells #[Value.string a, Value.string b] 44)) 0 { data := #[] }
      rw [show (w.alloc (Obj.cells #[Value.string a, Value.string b] 44)).heap.size = w.heap.size + 1 by simp] at h
      exact h
    have L1 : Below w.heap.size w ((w.alloc (Obj.cells #[Value.string a, Value.string b] 44)).alloc (Obj.cells #[Value.int IntKind.u64 0, Value.string { data := #[] }] 50)) := (((Grw.refl w).alloc _).alloc _).below
    generalize ((w.alloc (Obj.cells #[Value.string a, Value.string b] 44)).alloc (Obj.cells #[Value.int IntKind.u64 0, Value.string { data := #[] }] 50)) = W at *
    go_upto_region 2 with (first | (refine load_slots rfl (.tmp 2) rfl w.heap.size 44 rfl B1.own ?_) | (go_at_call 20; refine (hn _).mono ?_; rintro e w1 ⟨rfl, L2⟩))
    clear hn
    have hB : Below W.heap.size W (w1.alloc (Obj.cells #[Value.int IntKind.u64 (n : Int), Value.string t] 50)) := L2.trans (((Grw.refl w1).alloc _).below.mono L2.size)
    have R3 := R1.later hB
    have L3 := L1.trans (hB.mono L1.size)
    clear B1 L1 L2 R1 hB
    generalize (w1.alloc (Obj.cells #[Value.int IntKind.u64 (n : Int), Value.string t] 50)) = w2 at *
    have HB := Lib.hid (dbelowRow L3 (w.heap.size + 1) (by omega) #[.int .u64 ((1 : Nat) : Int), .string s])
    go_wp2_with (refine store_drec rfl (.tmp 5) (.tmp 18) rfl (w.heap.size + 1) 1 s rfl rfl R3 ?_)
    (try simp only [Exit.inBlock, Exit.then])
    exact bodyPost_ret (results_num_drec rfl _ _ (w.heap.size + 1) rfl (R3.put 1 s)) rfl ⟨rfl, HB.out⟩
  · have HP := Lib.hid (next_at hf)
    have hu := u64_next hnd
    have HN : Hid (((numD d + 1) % 18446744073709551616 : Nat) = nextN d) := Lib.hid rfl
    have hp : atD d = 0 ∨ atD d = 1 := by unfold atD; split; exact .inr rfl; exact .inl rfl
    rw [hf] at hn
    clear hf hd
    generalize nextI d = q at *
    generalize nextN d = m at *
    obtain ⟨a, b⟩ := d
    simp only at hn ⊢
    generalize atD ⟨a, b⟩ = p at *
    generalize numD ⟨a, b⟩ = n at *
    generalize recD ⟨a, b⟩ = t at *
    obtain ⟨m', hm'⟩ : ∃ m', (n + 1) % 18446744073709551616 = m' := ⟨_, rfl⟩
    rw [hm'] at hu HN
    obtain rfl : m' = m := HN.out
    clear hm' HN
    obtain ⟨pp, hpp⟩ : ∃ pp : Int, 1 - p = pp := ⟨_, rfl⟩
    rw [hpp] at HP
    obtain rfl : pp = q := HP.out
    have B1 : SlB w ((w.alloc (Obj.cells #[Value.string a, Value.string b] 44)).alloc (Obj.cells #[Value.int IntKind.u64 0, Value.string { data := #[] }] 50)) a b := (Own.new w _ _).below ((Grw.refl _).alloc _).below (by simp)
    go_enter Try.func22, Try.ntmps22
    go_upto_region 1 with fail
    have R1 : RecB ((w.alloc (Obj.cells #[Value.string a, Value.string b] 44)).alloc (Obj.cells #[Value.int IntKind.u64 0, Value.string { data := #[] }] 50)) (w.heap.size + 1) 0 { data := #[] } := by
      have h := RecB.new (w.alloc (Obj.cells #[Value.string a, Value.string b] 44)) 0 { data := #[] }
      rw [show (w.alloc (Obj.cells #[Value.string a, Value.string b] 44)).heap.size = w.heap.size + 1 by simp] at h
      exact h
    have L1 : Below w.heap.size w ((w.alloc (Obj.cells #[Value.string a, Value.string b] 44)).alloc (Obj.cells #[Value.int IntKind.u64 0, Value.string { data := #[] }] 50)) := (((Grw.refl w).alloc _).alloc _).below
    generalize ((w.alloc (Obj.cells #[Value.string a, Value.string b] 44)).alloc (Obj.cells #[Value.int IntKind.u64 0, Value.string { data := #[] }] 50)) = W at *
    go_upto_region 2 with (first | (refine load_slots rfl (.tmp 2) rfl w.heap.size 44 rfl B1.own ?_) | (go_at_call 20; refine (hn _).mono ?_; rintro e w1 ⟨rfl, L2⟩))
    clear hn
    have hB : Below W.heap.size W (w1.alloc (Obj.cells #[Value.int IntKind.u64 (n : Int), Value.string t] 50)) := L2.trans (((Grw.refl w1).alloc _).below.mono L2.size)
    have R3 := R1.later hB
    have L3 := L1.trans (hB.mono L1.size)
    have R4 := RecB.new w1 n t
    have hr : w.heap.size + 1 < w1.heap.size := Nat.lt_of_lt_of_le R1.lt L2.size
    clear B1 L1 L2 R1 hB
    generalize (w1.alloc (Obj.cells #[Value.int IntKind.u64 (n : Int), Value.string t] 50)) = w2 at *
    generalize w1.heap.size = r at *
    go_upto_region 4 with fail
    have C0 : w2.cell? ⟨r, 0, none⟩ = some (.int .u64 (n : Int)) := R4.c0
    have E0 : w2.cell? ⟨w.heap.size + 1, 0, none⟩ = some (.int .u64 ((0 : Nat) : Int)) := R3.c0
    have E1 : w2.cell? ⟨w.heap.size + 1, 1, none⟩ = some (.string { data := #[] }) := R3.c1
    have F0 : w2.frozen? ⟨w.heap.size + 1, 0, none⟩ = false := R3.own.free 0
    have F1 : w2.frozen? ⟨w.heap.size + 1, 1, none⟩ = false := R3.own.free 1
    have HR := Lib.hid R3
    have HL := Lib.hid L3
    clear R3 L3 R4
    go_region
    all_goals
      go_wp2
      (try simp only [Exit.inBlock, Exit.then])
      have RR : RecB ((w2.setCell ⟨w.heap.size + 1, 0, none⟩ (.int .u64 (m' : Int))).setCell ⟨w.heap.size + 1, 1, none⟩ (.string s)).drew (w.heap.size + 1) m' s := (HR.out.own.set 0 (.int .u64 (m' : Int))).set 1 (.string s)
      have LL := ((HL.out.setCell (p := ⟨w.heap.size + 1, 0, none⟩) (by show _ ≤ w.heap.size + 1; omega) (.int .u64 (m' : Int))).setCell (p := ⟨w.heap.size + 1, 1, none⟩) (by show _ ≤ w.heap.size + 1; omega) (.string s)).trans (((Grw.refl _).drew).below.mono (by simp; have := HL.out.size; omega))
      exact bodyPost_ret (results_num_drec rfl _ _ (w.heap.size + 1) rfl RR) rfl ⟨rfl, LL⟩
end Go.Proofs.Ytimdemidnleiiaa
