/- Tear: the program's. -/
import Derived.Test.YtimdemidnleiiaaDiskWrite
set_option linter.unusedVariables false
set_option linter.unusedSimpArgs false
namespace Go.Proofs.Ytimdemidnleiiaa
open Go.RowKit Go.Sort

def DHold (g : Nat) (w : World) : Prop := ∃ a b : ByteArray, Own w g 46 #[.string a, .string b]

set_option maxHeartbeats 4000000 in
theorem dtear_0 (a b : ByteArray) (hd : Dk.ok ⟨a, b⟩) (s : ByteArray) (keep : Int) (hs : s.size ≤ 8192) (hi : nextI ⟨a, b⟩ = 0) (g : Nat) (w : World) (h : Own w g 46 #[.string a, .string b]) :
    Calls Try.prog 18 #[.pointer (some ⟨g, 0, none⟩), .string s, .int .i64 keep] w fun e w' => e = .returned (.int .i64 0) ∧ Own w' g 46 #[.string (tornS (bytesS (nextN ⟨a, b⟩) s) keep), .string b] ∧ w.grownBy w' (some g) := by
  have hnx := fun W => dnext ⟨a, b⟩ hd s W
  have hby := fun W => dbytes (nextN ⟨a, b⟩) s W (nextN_lt _) hs
  rw [hi] at hnx
  simp only at hnx
  have hsz : ¬ (8192 : Int) < (s.size : Int) := by omega
  have hgl := h.lt
  have HG := Lib.hid h
  have hxs := bytesS_size (nextN ⟨a, b⟩) s
  clear hd hi
  generalize bytesS (nextN ⟨a, b⟩) s = x at *
  generalize nextN ⟨a, b⟩ = n at *
  obtain ⟨q, hq⟩ : ∃ q : Nat, max keep 0 = (q : Int) := ⟨keep.toNat, by omega⟩
  obtain ⟨y, hy⟩ : ∃ y : Nat, (x.size : Int) - 1 = (y : Int) := ⟨x.size - 1, by omega⟩
  obtain ⟨m, hm⟩ : ∃ m : Nat, min (q : Int) (y : Int) = (m : Int) := ⟨min q y, by omega⟩
  have hml : m ≤ x.size := by omega
  have hyw : IntKind.i64.wrap (y : Int) = (y : Int) := by rw [IntKind.wrap_i64]; omega
  have HT : Hid (tornS x keep = x.extract 0 m) := Lib.hid (by unfold tornS keepN; congr 1; omega)
  have hcl := fun W => str_clone (x.extract 0 m) W (by rw [ByteArray.size_extract]; omega)
  clear hxs
  go_enter Try.func18, Try.ntmps18
  go_upto_region 4 with (first | (refine load_slots rfl (.tmp 16) rfl g 46 rfl HG.out ?_) | (go_at_call 22; refine (hnx _).mono ?_; rintro e w1 ⟨rfl, L1⟩))
  clear hnx h
  have L2 : Below w.heap.size w (w1.alloc (Obj.cells #[Value.int IntKind.u64 (n : Int), Value.string s] 50)) := L1.trans (((Grw.refl w1).alloc _).below.mono L1.size)
  have R2 := RecB.new w1 n s
  clear L1
  generalize (w1.alloc (Obj.cells #[Value.int IntKind.u64 (n : Int), Value.string s] 50)) = w2 at *
  generalize w1.heap.size = r at *
  go_upto_region 5 with (first | (refine load_drec rfl (.tmp 8) rfl r rfl R2 ?_) | (go_at_call 23; refine (hby _).mono ?_; rintro e w1' ⟨rfl, L1⟩))
  have L2' := L2.trans (L1.mono L2.size)
  clear L1 L2 R2 hby
  have HO := (HG.out.below L2' hgl).drew
  refine wp_region_held_drew (S := DHold g) (by kernel_rfl) ⟨a, b, HO⟩ (fun hHeld => ?_)
  have L3 := Lib.hid (L2'.trans (((Grw.refl w1').drew).below.mono L2'.size))
  clear L2'
  generalize w1'.drew = w3 at *
  refine dtake (i := 0) (v := .pointer (some ⟨g, 0, none⟩)) 24 rfl (by kernel_rfl) (by kernel_rfl) (by kernel_rfl) (by kernel_rfl) (fun _ _ _ h => h) (.inl ⟨by kernel_rfl, fun w' hS => by (go_simp)⟩) hHeld ?_
  (try simp only [Act.put, List.setIfInBounds_toArray, List.set_cons_zero, List.set_cons_succ])
  refine dtake (i := 1) (v := .int .i64 0) 25 rfl (by kernel_rfl) (by kernel_rfl) (by kernel_rfl) (by kernel_rfl) (fun _ _ _ h => h) (.inl ⟨by kernel_rfl, fun w' hS => by (go_simp)⟩) hHeld ?_
  (try simp only [Act.put, List.setIfInBounds_toArray, List.set_cons_zero, List.set_cons_succ])
  refine dtake (i := 2) (v := .string x) 26 rfl (by kernel_rfl) (by kernel_rfl) (by kernel_rfl) (by kernel_rfl) (fun _ _ _ h => h) (.inl ⟨by kernel_rfl, fun w' hS => by (go_simp)⟩) hHeld ?_
  (try simp only [Act.put, List.setIfInBounds_toArray, List.set_cons_zero, List.set_cons_succ])
  refine dtake (i := 3) (v := .int .i64 keep) 27 rfl (by kernel_rfl) (by kernel_rfl) (by kernel_rfl) (by kernel_rfl) (fun _ _ _ h => h) (.inl ⟨by kernel_rfl, fun w' hS => by (go_simp)⟩) hHeld ?_
  (try simp only [Act.put, List.setIfInBounds_toArray, List.set_cons_zero, List.set_cons_succ])
  refine dtake (i := 4) (v := .int .i64 (q : Int)) 28 rfl (by kernel_rfl) (by kernel_rfl) (by kernel_rfl) (by kernel_rfl) (fun _ _ _ h => h) (.inl ⟨by kernel_rfl, fun w' hS => by (go_simp)⟩) hHeld ?_
  (try simp only [Act.put, List.setIfInBounds_toArray, List.set_cons_zero, List.set_cons_succ])
  refine dtake (i := 5) (v := .string x) 29 rfl (by kernel_rfl) (by kernel_rfl) (by kernel_rfl) (by kernel_rfl) (fun _ _ _ h => h) (.inl ⟨by kernel_rfl, fun w' hS => by (go_simp)⟩) hHeld ?_
  (try simp only [Act.put, List.setIfInBounds_toArray, List.set_cons_zero, List.set_cons_succ])
  refine dtake (i := 6) (v := .int .i64 (x.size : Int)) 30 rfl (by kernel_rfl) (by kernel_rfl) (by kernel_rfl) (by kernel_rfl) (fun _ _ _ h => h) (.inl ⟨by kernel_rfl, fun w' hS => by (go_simp)⟩) hHeld ?_
  (try simp only [Act.put, List.setIfInBounds_toArray, List.set_cons_zero, List.set_cons_succ])
  refine dtake (i := 7) (v := .int .i64 (y : Int)) 31 rfl (by kernel_rfl) (by kernel_rfl) (by kernel_rfl) (by kernel_rfl) (fun _ _ _ h => h) (.inl ⟨by kernel_rfl, fun w' hS => by (go_simp)⟩) hHeld ?_
  (try simp only [Act.put, List.setIfInBounds_toArray, List.set_cons_zero, List.set_cons_succ])
  refine dtake (i := 8) (v := .int .i64 (m : Int)) 32 rfl (by kernel_rfl) (by kernel_rfl) (by kernel_rfl) (by kernel_rfl) (fun _ _ _ h => h) (.inl ⟨by kernel_rfl, fun w' hS => by (go_simp)⟩) hHeld ?_
  (try simp only [Act.put, List.setIfInBounds_toArray, List.set_cons_zero, List.set_cons_succ])
  refine dtake (i := 9) (v := .string (x.extract 0 m)) 33 rfl (by kernel_rfl) (by kernel_rfl) (by kernel_rfl) (by kernel_rfl) (fun _ _ _ h => h) (.inl ⟨by kernel_rfl, fun w' hS => by (go_simp)⟩) hHeld ?_
  (try simp only [Act.put, List.setIfInBounds_toArray, List.set_cons_zero, List.set_cons_succ])
  refine dtake (i := 11) (v := .pointer (some ⟨g, 0, none⟩)) 35 rfl (by kernel_rfl) (by kernel_rfl) (by kernel_rfl) (by kernel_rfl) (fun _ _ _ h => h) (.inl ⟨by kernel_rfl, fun w' hS => by (go_simp)⟩) hHeld ?_
  (try simp only [Act.put, List.setIfInBounds_toArray, List.set_cons_zero, List.set_cons_succ])
  refine dtake (i := 12) (v := .pointer (some ⟨g, 0, none⟩)) 36 rfl (by kernel_rfl) (by kernel_rfl) (by kernel_rfl) (by kernel_rfl) (fun _ _ _ h => h) (.inl ⟨by kernel_rfl, fun w' hS => by (go_simp)⟩) hHeld ?_
  (try simp only [Act.put, List.setIfInBounds_toArray, List.set_cons_zero, List.set_cons_succ])
  refine wpAnyH_ready (rs := [10]) (by kernel_rfl) (by simp) (AllReadyH.cons rfl (fun K hK => ?_) AllReadyH.nil)
  clear hHeld
  rw [if_pos (by kernel_rfl)]
  go_simp
  refine (hcl _).mono ?_
  rintro e w4 ⟨rfl, L4⟩
  have O4 := HO.below L4 HO.lt
  have L5 := Lib.hid (L3.out.trans (L4.mono L3.out.size))
  refine hK.out _ _ ⟨a, b, O4⟩ (fun hHeld => ?_)
  clear hK K L4 HO hcl
  (try simp only [Act.put, List.setIfInBounds_toArray, List.set_cons_zero, List.set_cons_succ])
  refine dtake (i := 13) (v := .pointer (some ⟨g, 0, none⟩)) 37 rfl (by kernel_rfl) (by kernel_rfl) (by kernel_rfl) (by kernel_rfl) (fun _ _ _ h => h) (.inl ⟨by kernel_rfl, fun w' hS => by (go_simp)⟩) hHeld ?_
  (try simp only [Act.put, List.setIfInBounds_toArray, List.set_cons_zero, List.set_cons_succ])
  have c0 := O4.at_ 0 _ rfl
  have f0 := O4.free 0
  have H5 := O4.set 0 (.string (x.extract 0 m))
  have H6 : DHold g (w4.setCell ⟨g, 0, none⟩ (.string (x.extract 0 m))) := ⟨_, _, H5⟩
  have HW := Lib.hid H5
  have HX := Lib.hid (dgrown_tr (dgrown_below L5.out (some g)) (dgrown_set w4 g 0 (.string (x.extract 0 m))))
  clear H5 O4
  refine wpAnyH_ready (rs := [14]) (by kernel_rfl) (by simp) (AllReadyH.cons rfl (fun K hK => ?_) AllReadyH.nil)
  clear hHeld
  rw [if_pos (by kernel_rfl)]
  go_simp
  refine hK.out _ _ H6 (fun hHeld => ?_)
  clear hK K hHeld H6
  refine wpAnyH_done (by kernel_rfl) ?_ _
  go_wp2
  go_ret
  exact ⟨rfl, by rw [HT.out]; exact HW.out, HX.out⟩

set_option maxHeartbeats 4000000 in
theorem dtear_1 (a b : ByteArray) (hd : Dk.ok ⟨a, b⟩) (s : ByteArray) (keep : Int) (hs : s.size ≤ 8192) (hi : nextI ⟨a, b⟩ = 1) (g : Nat) (w : World) (h : Own w g 46 #[.string a, .string b]) :
    Calls Try.prog 18 #[.pointer (some ⟨g, 0, none⟩), .string s, .int .i64 keep] w fun e w' => e = .returned (.int .i64 0) ∧ Own w' g 46 #[.string a, .string (tornS (bytesS (nextN ⟨a, b⟩) s) keep)] ∧ w.grownBy w' (some g) := by
  have hnx := fun W => dnext ⟨a, b⟩ hd s W
  have hby := fun W => dbytes (nextN ⟨a, b⟩) s W (nextN_lt _) hs
  rw [hi] at hnx
  simp only at hnx
  have hsz : ¬ (8192 : Int) < (s.size : Int) := by omega
  have hgl := h.lt
  have HG := Lib.hid h
  have hxs := bytesS_size (nextN ⟨a, b⟩) s
  clear hd hi
  generalize bytesS (nextN ⟨a, b⟩) s = x at *
  generalize nextN ⟨a, b⟩ = n at *
  obtain ⟨q, hq⟩ : ∃ q : Nat, max keep 0 = (q : Int) := ⟨keep.toNat, by omega⟩
  obtain ⟨y, hy⟩ : ∃ y : Nat, (x.size : Int) - 1 = (y : Int) := ⟨x.size - 1, by omega⟩
  obtain ⟨m, hm⟩ : ∃ m : Nat, min (q : Int) (y : Int) = (m : Int) := ⟨min q y, by omega⟩
  have hml : m ≤ x.size := by omega
  have hyw : IntKind.i64.wrap (y : Int) = (y : Int) := by rw [IntKind.wrap_i64]; omega
  have HT : Hid (tornS x keep = x.extract 0 m) := Lib.hid (by unfold tornS keepN; congr 1; omega)
  have hcl := fun W => str_clone (x.extract 0 m) W (by rw [ByteArray.size_extract]; omega)
  clear hxs
  go_enter Try.func18, Try.ntmps18
  go_upto_region 4 with (first | (refine load_slots rfl (.tmp 16) rfl g 46 rfl HG.out ?_) | (go_at_call 22; refine (hnx _).mono ?_; rintro e w1 ⟨rfl, L1⟩))
  clear hnx h
  have L2 : Below w.heap.size w (w1.alloc (Obj.cells #[Value.int IntKind.u64 (n : Int), Value.string s] 50)) := L1.trans (((Grw.refl w1).alloc _).below.mono L1.size)
  have R2 := RecB.new w1 n s
  clear L1
  generalize (w1.alloc (Obj.cells #[Value.int IntKind.u64 (n : Int), Value.string s] 50)) = w2 at *
  generalize w1.heap.size = r at *
  go_upto_region 5 with (first | (refine load_drec rfl (.tmp 8) rfl r rfl R2 ?_) | (go_at_call 23; refine (hby _).mono ?_; rintro e w1' ⟨rfl, L1⟩))
  have L2' := L2.trans (L1.mono L2.size)
  clear L1 L2 R2 hby
  have HO := (HG.out.below L2' hgl).drew
  refine wp_region_held_drew (S := DHold g) (by kernel_rfl) ⟨a, b, HO⟩ (fun hHeld => ?_)
  have L3 := Lib.hid (L2'.trans (((Grw.refl w1').drew).below.mono L2'.size))
  clear L2'
  generalize w1'.drew = w3 at *
  refine dtake (i := 0) (v := .pointer (some ⟨g, 0, none⟩)) 24 rfl (by kernel_rfl) (by kernel_rfl) (by kernel_rfl) (by kernel_rfl) (fun _ _ _ h => h) (.inl ⟨by kernel_rfl, fun w' hS => by (go_simp)⟩) hHeld ?_
  (try simp only [Act.put, List.setIfInBounds_toArray, List.set_cons_zero, List.set_cons_succ])
  refine dtake (i := 1) (v := .int .i64 1) 25 rfl (by kernel_rfl) (by kernel_rfl) (by kernel_rfl) (by kernel_rfl) (fun _ _ _ h => h) (.inl ⟨by kernel_rfl, fun w' hS => by (go_simp)⟩) hHeld ?_
  (try simp only [Act.put, List.setIfInBounds_toArray, List.set_cons_zero, List.set_cons_succ])
  refine dtake (i := 2) (v := .string x) 26 rfl (by kernel_rfl) (by kernel_rfl) (by kernel_rfl) (by kernel_rfl) (fun _ _ _ h => h) (.inl ⟨by kernel_rfl, fun w' hS => by (go_simp)⟩) hHeld ?_
  (try simp only [Act.put, List.setIfInBounds_toArray, List.set_cons_zero, List.set_cons_succ])
  refine dtake (i := 3) (v := .int .i64 keep) 27 rfl (by kernel_rfl) (by kernel_rfl) (by kernel_rfl) (by kernel_rfl) (fun _ _ _ h => h) (.inl ⟨by kernel_rfl, fun w' hS => by (go_simp)⟩) hHeld ?_
  (try simp only [Act.put, List.setIfInBounds_toArray, List.set_cons_zero, List.set_cons_succ])
  refine dtake (i := 4) (v := .int .i64 (q : Int)) 28 rfl (by kernel_rfl) (by kernel_rfl) (by kernel_rfl) (by kernel_rfl) (fun _ _ _ h => h) (.inl ⟨by kernel_rfl, fun w' hS => by (go_simp)⟩) hHeld ?_
  (try simp only [Act.put, List.setIfInBounds_toArray, List.set_cons_zero, List.set_cons_succ])
  refine dtake (i := 5) (v := .string x) 29 rfl (by kernel_rfl) (by kernel_rfl) (by kernel_rfl) (by kernel_rfl) (fun _ _ _ h => h) (.inl ⟨by kernel_rfl, fun w' hS => by (go_simp)⟩) hHeld ?_
  (try simp only [Act.put, List.setIfInBounds_toArray, List.set_cons_zero, List.set_cons_succ])
  refine dtake (i := 6) (v := .int .i64 (x.size : Int)) 30 rfl (by kernel_rfl) (by kernel_rfl) (by kernel_rfl) (by kernel_rfl) (fun _ _ _ h => h) (.inl ⟨by kernel_rfl, fun w' hS => by (go_simp)⟩) hHeld ?_
  (try simp only [Act.put, List.setIfInBounds_toArray, List.set_cons_zero, List.set_cons_succ])
  refine dtake (i := 7) (v := .int .i64 (y : Int)) 31 rfl (by kernel_rfl) (by kernel_rfl) (by kernel_rfl) (by kernel_rfl) (fun _ _ _ h => h) (.inl ⟨by kernel_rfl, fun w' hS => by (go_simp)⟩) hHeld ?_
  (try simp only [Act.put, List.setIfInBounds_toArray, List.set_cons_zero, List.set_cons_succ])
  refine dtake (i := 8) (v := .int .i64 (m : Int)) 32 rfl (by kernel_rfl) (by kernel_rfl) (by kernel_rfl) (by kernel_rfl) (fun _ _ _ h => h) (.inl ⟨by kernel_rfl, fun w' hS => by (go_simp)⟩) hHeld ?_
  (try simp only [Act.put, List.setIfInBounds_toArray, List.set_cons_zero, List.set_cons_succ])
  refine dtake (i := 9) (v := .string (x.extract 0 m)) 33 rfl (by kernel_rfl) (by kernel_rfl) (by kernel_rfl) (by kernel_rfl) (fun _ _ _ h => h) (.inl ⟨by kernel_rfl, fun w' hS => by (go_simp)⟩) hHeld ?_
  (try simp only [Act.put, List.setIfInBounds_toArray, List.set_cons_zero, List.set_cons_succ])
  refine dtake (i := 11) (v := .pointer (some ⟨g, 0, none⟩)) 35 rfl (by kernel_rfl) (by kernel_rfl) (by kernel_rfl) (by kernel_rfl) (fun _ _ _ h => h) (.inl ⟨by kernel_rfl, fun w' hS => by (go_simp)⟩) hHeld ?_
  (try simp only [Act.put, List.setIfInBounds_toArray, List.set_cons_zero, List.set_cons_succ])
  refine dtake (i := 12) (v := .pointer (some ⟨g, 0, none⟩)) 36 rfl (by kernel_rfl) (by kernel_rfl) (by kernel_rfl) (by kernel_rfl) (fun _ _ _ h => h) (.inl ⟨by kernel_rfl, fun w' hS => by (go_simp)⟩) hHeld ?_
  (try simp only [Act.put, List.setIfInBounds_toArray, List.set_cons_zero, List.set_cons_succ])
  refine wpAnyH_ready (rs := [10]) (by kernel_rfl) (by simp) (AllReadyH.cons rfl (fun K hK => ?_) AllReadyH.nil)
  clear hHeld
  rw [if_pos (by kernel_rfl)]
  go_simp
  refine (hcl _).mono ?_
  rintro e w4 ⟨rfl, L4⟩
  have O4 := HO.below L4 HO.lt
  have L5 := Lib.hid (L3.out.trans (L4.mono L3.out.size))
  refine hK.out _ _ ⟨a, b, O4⟩ (fun hHeld => ?_)
  clear hK K L4 HO hcl
  (try simp only [Act.put, List.setIfInBounds_toArray, List.set_cons_zero, List.set_cons_succ])
  refine dtake (i := 13) (v := .pointer (some ⟨g, 1, none⟩)) 37 rfl (by kernel_rfl) (by kernel_rfl) (by kernel_rfl) (by kernel_rfl) (fun _ _ _ h => h) (.inl ⟨by kernel_rfl, fun w' hS => by (go_simp)⟩) hHeld ?_
  (try simp only [Act.put, List.setIfInBounds_toArray, List.set_cons_zero, List.set_cons_succ])
  have c0 := O4.at_ 1 _ rfl
  have f0 := O4.free 1
  have H5 := O4.set 1 (.string (x.extract 0 m))
  have H6 : DHold g (w4.setCell ⟨g, 1, none⟩ (.string (x.extract 0 m))) := ⟨_, _, H5⟩
  have HW := Lib.hid H5
  have HX := Lib.hid (dgrown_tr (dgrown_below L5.out (some g)) (dgrown_set w4 g 1 (.string (x.extract 0 m))))
  clear H5 O4
  refine wpAnyH_ready (rs := [14]) (by kernel_rfl) (by simp) (AllReadyH.cons rfl (fun K hK => ?_) AllReadyH.nil)
  clear hHeld
  rw [if_pos (by kernel_rfl)]
  go_simp
  refine hK.out _ _ H6 (fun hHeld => ?_)
  clear hK K hHeld H6
  refine wpAnyH_done (by kernel_rfl) ?_ _
  go_wp2
  go_ret
  exact ⟨rfl, by rw [HT.out]; exact HW.out, HX.out⟩
end Go.Proofs.Ytimdemidnleiiaa
