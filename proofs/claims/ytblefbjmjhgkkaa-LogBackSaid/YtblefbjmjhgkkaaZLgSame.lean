/- Layer 19: the law's own turning of records and items into the document's; the document's comparison. (Written by wip/gen_lgsame.py.) -/
import Derived.Test.YtblefbjmjhgkkaaZDkKits
import Derived.Test.YtblefbjmjhgkkaaZVoRef2
set_option linter.unusedVariables false
set_option maxRecDepth 100000
set_option linter.unusedSimpArgs false
namespace Go.Proofs.Ytblefbjmjhgkkaa
open Go.RowKit Go.Sort Go.Maps

set_option maxHeartbeats 2000000 in
theorem lrec (rn re : Nat) (rr : Int) (rm : Nat) (a : Option Addr) (k c : Nat) (w : World) :
    Calls Try.prog 18 #[.agg #[.int .u64 (rn : Int), .int .u64 (re : Int), .int .i64 rr, .int .u64 (rm : Int), .slice a k c]] w fun e w' => e = .returned (.agg #[.int .u64 (rn : Int), .int .u64 (re : Int), .int .i64 rr, .int .u64 (rm : Int), .slice a k c]) ∧ Below w.heap.size w w' := by
  have B := ((Grw.refl w).alloc (.cells #[.int .u64 (rn : Int), .int .u64 (re : Int), .int .i64 rr, .int .u64 (rm : Int), .slice a k c] 31)).alloc (.cells #[.int .u64 0, .int .u64 0, .int .i64 0, .int .u64 0, .slice none 0 0] 37)
  have z1 : (w.alloc (.cells #[.int .u64 (rn : Int), .int .u64 (re : Int), .int .i64 rr, .int .u64 (rm : Int), .slice a k c] 31)).heap.size = w.heap.size + 1 := by simp
  have Z : Own ((w.alloc (.cells #[.int .u64 (rn : Int), .int .u64 (re : Int), .int .i64 rr, .int .u64 (rm : Int), .slice a k c] 31)).alloc (.cells #[.int .u64 0, .int .u64 0, .int .i64 0, .int .u64 0, .slice none 0 0] 37)) (w.heap.size + 1) 37 (encRc ⟨⟨zeroV, []⟩, none, 0, 0⟩).toArray := by rw [← z1]; exact Own.new _ _ _
  have HB := Lib.hid (belowRow18 B.below (w.heap.size + 1) (Nat.le_succ _) (encRc ⟨⟨⟨rn, re, rr, rm⟩, []⟩, a, k, c⟩).toArray)
  clear B z1
  go_enter Try.func18, Try.ntmps18
  go_wp2_with (refine store_rd rfl (.tmp 2) (.tmp 7) rfl (w.heap.size + 1) ⟨⟨⟨rn, re, rr, rm⟩, []⟩, a, k, c⟩ rfl rfl Z ?_)
  (try simp only [Exit.inBlock, Exit.then])
  exact bodyPost_ret (results_rd rfl _ _ (w.heap.size + 1) rfl (Z.row _)) rfl ⟨rfl, HB.out⟩
/-- A box and a result's block. -/
theorem two_new (w : World) (t1 t2 : TypeId) (c1 c2 : Array Value) : Own ((w.alloc (.cells c1 t1)).alloc (.cells c2 t2)) w.heap.size t1 c1 ∧ Own ((w.alloc (.cells c1 t1)).alloc (.cells c2 t2)) (w.heap.size + 1) t2 c2 ∧ Below w.heap.size w ((w.alloc (.cells c1 t1)).alloc (.cells c2 t2)) := by
  obtain ⟨A1, hA1⟩ : ∃ A1, A1 = w.alloc (.cells c1 t1) := ⟨_, rfl⟩
  have z1 : A1.heap.size = w.heap.size + 1 := by rw [hA1]; simp
  have o1 : Own A1 w.heap.size t1 c1 := by rw [hA1]; exact Own.new _ _ _
  have g1 : Grw w A1 := by rw [hA1]; exact (Grw.refl _).alloc _
  rw [← hA1]
  have g2 := (Grw.refl A1).alloc (.cells c2 t2)
  exact ⟨o1.below g2.below o1.lt, by rw [← z1]; exact Own.new _ _ _, (g1.trans g2).below⟩
theorem results_dst {fn : Func} {p : Tmp} (h : fn.results = #[.cell p 39]) (tmps : Array Value) (w : World) (g : Nat) {x : Stb} {a : Option Addr} {k c : Nat}
    (hp : tmps.getD p undef = .pointer (some ⟨g, 0, none⟩)) (hg : Own w g 39 (encS x a k c).toArray) : (results fn tmps).run Try.prog w = .ok (.agg (encS x a k c).toArray) w :=
  results_cell_row h tmps w g 39 _ (0, 0) _ hp hg Try.underlying39 rfl dstable_size
theorem results_dit {fn : Func} {p : Tmp} (h : fn.results = #[.cell p 47]) (tmps : Array Value) (w : World) (g : Nat) {x : Itm} {T : ByteArray} {a : Option Addr} {k c : Nat}
    (hp : tmps.getD p undef = .pointer (some ⟨g, 0, none⟩)) (hg : Own w g 47 (encI x T a k c).toArray) : (results fn tmps).run Try.prog w = .ok (.agg (encI x T a k c).toArray) w :=
  results_cell_row h tmps w g 47 _ (0, 0) _ hp hg Try.underlying47 rfl ditem_size
set_option maxHeartbeats 8000000 in
theorem lstable19 (ep ic rn re : Nat) (rr : Int) (rm : Nat) (a : Option Addr) (k c : Nat) (w : World) : Calls Try.prog 12 #[.agg #[.int .u64 (ep : Int), .int .u32 (ic : Int), .int .u64 (rn : Int), .int .u64 (re : Int), .int .i64 rr, .int .u64 (rm : Int), .slice a k c]] w fun e w' => e = .returned (.agg #[.int .u64 (ep : Int), .int .u32 (ic : Int), .int .u64 (rn : Int), .int .u64 (re : Int), .int .i64 rr, .int .u64 (rm : Int), .slice a k c]) ∧ Below w.heap.size w w' := by
  obtain ⟨X0, Z0, B0⟩ := two_new w 33 39 #[.int .u64 (ep : Int), .int .u32 (ic : Int), .int .u64 (rn : Int), .int .u64 (re : Int), .int .i64 rr, .int .u64 (rm : Int), .slice a k c] #[.int .u64 0, .int .u32 0, .int .u64 0, .int .u64 0, .int .i64 0, .int .u64 0, .slice none 0 0]
  go_enter Try.func12, Try.ntmps12
  go_upto_region 1 with fail
  generalize (w.alloc (.cells #[.int .u64 (ep : Int), .int .u32 (ic : Int), .int .u64 (rn : Int), .int .u64 (re : Int), .int .i64 rr, .int .u64 (rm : Int), .slice a k c] 33)).alloc (.cells #[.int .u64 0, .int .u32 0, .int .u64 0, .int .u64 0, .int .i64 0, .int .u64 0, .slice none 0 0] 39) = W0 at *
  have X1 : Own W0.drew w.heap.size 33 #[.int .u64 (ep : Int), .int .u32 (ic : Int), .int .u64 (rn : Int), .int .u64 (re : Int), .int .i64 rr, .int .u64 (rm : Int), .slice a k c] := X0
  have Z1 : Own W0.drew (w.heap.size + 1) 39 #[.int .u64 0, .int .u32 0, .int .u64 0, .int .u64 0, .int .i64 0, .int .u64 0, .slice none 0 0] := Z0
  have B1 : Below w.heap.size w W0.drew := B0.trans ((Grw.refl W0).drew.below.mono B0.size)
  clear X0 Z0 B0
  refine region_til [6, 7] (fun w' => Own w' w.heap.size 33 #[.int .u64 (ep : Int), .int .u32 (ic : Int), .int .u64 (rn : Int), .int .u64 (re : Int), .int .i64 rr, .int .u64 (rm : Int), .slice a k c]) (by kernel_rfl) ?_
  generalize W0.drew = wd at *
  have hTil : ∀ l, tilD [6, 7] (fun w' => Own w' w.heap.size 33 #[.int .u64 (ep : Int), .int .u32 (ic : Int), .int .u64 (rn : Int), .int .u64 (re : Int), .int .i64 rr, .int .u64 (rm : Int), .slice a k c]) l wd := fun _ => .inr X1
  refine til_pure (i := 0) (v := .pointer (some ⟨w.heap.size, 0, none⟩)) 3 rfl rfl (by kernel_rfl) (by kernel_rfl) (by kernel_rfl) (by kernel_rfl) (fun _ _ _ h => h) (.inl ⟨by kernel_rfl, fun w' _ => by (go_simp)⟩) (hTil _) ?_
  (try simp only [Act.put, List.setIfInBounds_toArray, List.set_cons_zero, List.set_cons_succ])
  refine til_load (i := 1) (c := 7) (v := .int .u64 (ep : Int)) 4 rfl rfl (by kernel_rfl) (by kernel_rfl) (by kernel_rfl) (by kernel_rfl) rfl (by kernel_rfl) (by decide) (by kernel_rfl) (fun _ _ _ h => h) (.inl ⟨by kernel_rfl, fun w' hS => by (have hc0 := Own.at_ hS 0 _ rfl; go_simp)⟩) (hTil _) ?_
  (try simp only [Act.put, List.setIfInBounds_toArray, List.set_cons_zero, List.set_cons_succ])
  refine til_pure (i := 2) (v := .pointer (some ⟨w.heap.size, 1, none⟩)) 5 rfl rfl (by kernel_rfl) (by kernel_rfl) (by kernel_rfl) (by kernel_rfl) (fun _ _ _ h => h) (.inl ⟨by kernel_rfl, fun w' _ => by (go_simp)⟩) (hTil _) ?_
  (try simp only [Act.put, List.setIfInBounds_toArray, List.set_cons_zero, List.set_cons_succ])
  refine til_load (i := 3) (c := 7) (v := .int .u32 (ic : Int)) 6 rfl rfl (by kernel_rfl) (by kernel_rfl) (by kernel_rfl) (by kernel_rfl) rfl (by kernel_rfl) (by decide) (by kernel_rfl) (fun _ _ _ h => h) (.inl ⟨by kernel_rfl, fun w' hS => by (have hc1 := Own.at_ hS 1 _ rfl; go_simp)⟩) (hTil _) ?_
  (try simp only [Act.put, List.setIfInBounds_toArray, List.set_cons_zero, List.set_cons_succ])
  refine til_pure (i := 4) (v := .pointer (some ⟨w.heap.size, 2, none⟩)) 7 rfl rfl (by kernel_rfl) (by kernel_rfl) (by kernel_rfl) (by kernel_rfl) (fun _ _ _ h => h) (.inl ⟨by kernel_rfl, fun w' _ => by (go_simp)⟩) (hTil _) ?_
  (try simp only [Act.put, List.setIfInBounds_toArray, List.set_cons_zero, List.set_cons_succ])
  refine til_load (i := 5) (c := 6) (v := .agg #[.int .u64 (rn : Int), .int .u64 (re : Int), .int .i64 rr, .int .u64 (rm : Int), .slice a k c]) 8 rfl rfl (by kernel_rfl) (by kernel_rfl) (by kernel_rfl) (by kernel_rfl) rfl (by kernel_rfl) (by decide) (by kernel_rfl) (fun _ _ _ h => h) (.inl ⟨by kernel_rfl, fun w' hS => by (have hc2 := Own.at_ hS 2 _ rfl; have hc3 := Own.at_ hS 3 _ rfl; have hc4 := Own.at_ hS 4 _ rfl; have hc5 := Own.at_ hS 5 _ rfl; have hc6 := Own.at_ hS 6 _ rfl; go_simp)⟩) (hTil _) ?_
  (try simp only [Act.put, List.setIfInBounds_toArray, List.set_cons_zero, List.set_cons_succ])
  clear hTil
  refine til_next (i := 6) (by kernel_rfl) rfl (by kernel_rfl) (fun K hK => ?_)
  go_simp
  refine (lrec rn re rr rm a k c wd).mono ?_
  rintro e w3 ⟨rfl, L3⟩
  have X3 := X1.below L3 X1.lt
  have Z3 := Z1.below L3 Z1.lt
  have B3 := B1.trans (L3.mono B1.size)
  refine hK.out _ _ (.inr X3) ?_
  clear hK K X1 Z1 B1 L3
  (try simp only [Act.put, List.setIfInBounds_toArray, List.set_cons_zero, List.set_cons_succ])
  have hTil : ∀ l, tilD [6, 7] (fun w' => Own w' w.heap.size 33 #[.int .u64 (ep : Int), .int .u32 (ic : Int), .int .u64 (rn : Int), .int .u64 (re : Int), .int .i64 rr, .int .u64 (rm : Int), .slice a k c]) l w3 := fun _ => .inr X3
  clear hTil
  refine til_next (i := 7) (by kernel_rfl) rfl (by kernel_rfl) (fun K hK => ?_)
  go_simp
  refine hK.out _ _ (.inl (by kernel_rfl)) ?_
  clear hK K
  (try simp only [Act.put, List.setIfInBounds_toArray, List.set_cons_zero, List.set_cons_succ])
  have HB := Lib.hid (belowRow18 B3 (w.heap.size + 1) (Nat.le_succ _) (#[.int .u64 (ep : Int), .int .u32 (ic : Int), .int .u64 (rn : Int), .int .u64 (re : Int), .int .i64 rr, .int .u64 (rm : Int), .slice a k c]))
  refine til_next (i := 8) (by kernel_rfl) rfl (by kernel_rfl) (fun K hK => ?_)
  refine wp_store_row 39 (.tmp 2) (.tmp 10) rfl (w.heap.size + 1) _ rfl rfl 39 _ Z3 dstable_size rfl (encS_one ⟨ep, ic, ⟨⟨rn, re, rr, rm⟩, []⟩⟩ a k c) ?_
  refine hK.out _ _ (.inl (by kernel_rfl)) ?_
  clear hK K
  refine til_done (by kernel_rfl) ?_ _
  go_wp2
  (try simp only [Exit.inBlock, Exit.then])
  exact bodyPost_ret (results_dst (x := ⟨ep, ic, ⟨⟨rn, re, rr, rm⟩, []⟩⟩) (a := a) (k := k) (c := c) rfl _ _ (w.heap.size + 1) rfl (Z3.row _)) rfl ⟨rfl, HB.out⟩
set_option maxHeartbeats 8000000 in
theorem litem19 (xk : Int) (T : ByteArray) (xi xh : Nat) (xa xb : Bool) (rn re : Nat) (rr : Int) (rm : Nat) (a : Option Addr) (k c vn ve : Nat) (vr : Int) (vm xn : Nat) (xx xt : Int) (w : World) : Calls Try.prog 14 #[.agg #[.int .i64 xk, .string T, .int .u32 (xi : Int), .int .u64 (xh : Int), .bool xa, .bool xb, .int .u64 (rn : Int), .int .u64 (re : Int), .int .i64 rr, .int .u64 (rm : Int), .slice a k c, .int .u64 (vn : Int), .int .u64 (ve : Int), .int .i64 vr, .int .u64 (vm : Int), .int .u64 (xn : Int), .int .i64 xx, .int .i64 xt]] w fun e w' => e = .returned (.agg #[.int .i64 xk, .string T, .int .u32 (xi : Int), .int .u64 (xh : Int), .bool xa, .bool xb, .int .u64 (rn : Int), .int .u64 (re : Int), .int .i64 rr, .int .u64 (rm : Int), .slice a k c, .int .u64 (vn : Int), .int .u64 (ve : Int), .int .i64 vr, .int .u64 (vm : Int), .int .u64 (xn : Int), .int .i64 xx, .int .i64 xt]) ∧ Below w.heap.size w w' := by
  obtain ⟨X0, Z0, B0⟩ := two_new w 43 47 #[.int .i64 xk, .string T, .int .u32 (xi : Int), .int .u64 (xh : Int), .bool xa, .bool xb, .int .u64 (rn : Int), .int .u64 (re : Int), .int .i64 rr, .int .u64 (rm : Int), .slice a k c, .int .u64 (vn : Int), .int .u64 (ve : Int), .int .i64 vr, .int .u64 (vm : Int), .int .u64 (xn : Int), .int .i64 xx, .int .i64 xt] #[.int .i64 0, .string { data := #[] }, .int .u32 0, .int .u64 0, .bool false, .bool false, .int .u64 0, .int .u64 0, .int .i64 0, .int .u64 0, .slice none 0 0, .int .u64 0, .int .u64 0, .int .i64 0, .int .u64 0, .int .u64 0, .int .i64 0, .int .i64 0]
  go_enter Try.func14, Try.ntmps14
  go_upto_region 1 with fail
  generalize (w.alloc (.cells #[.int .i64 xk, .string T, .int .u32 (xi : Int), .int .u64 (xh : Int), .bool xa, .bool xb, .int .u64 (rn : Int), .int .u64 (re : Int), .int .i64 rr, .int .u64 (rm : Int), .slice a k c, .int .u64 (vn : Int), .int .u64 (ve : Int), .int .i64 vr, .int .u64 (vm : Int), .int .u64 (xn : Int), .int .i64 xx, .int .i64 xt] 43)).alloc (.cells #[.int .i64 0, .string { data := #[] }, .int .u32 0, .int .u64 0, .bool false, .bool false, .int .u64 0, .int .u64 0, .int .i64 0, .int .u64 0, .slice none 0 0, .int .u64 0, .int .u64 0, .int .i64 0, .int .u64 0, .int .u64 0, .int .i64 0, .int .i64 0] 47) = W0 at *
  have X1 : Own W0.drew w.heap.size 43 #[.int .i64 xk, .string T, .int .u32 (xi : Int), .int .u64 (xh : Int), .bool xa, .bool xb, .int .u64 (rn : Int), .int .u64 (re : Int), .int .i64 rr, .int .u64 (rm : Int), .slice a k c, .int .u64 (vn : Int), .int .u64 (ve : Int), .int .i64 vr, .int .u64 (vm : Int), .int .u64 (xn : Int), .int .i64 xx, .int .i64 xt] := X0
  have Z1 : Own W0.drew (w.heap.size + 1) 47 #[.int .i64 0, .string { data := #[] }, .int .u32 0, .int .u64 0, .bool false, .bool false, .int .u64 0, .int .u64 0, .int .i64 0, .int .u64 0, .slice none 0 0, .int .u64 0, .int .u64 0, .int .i64 0, .int .u64 0, .int .u64 0, .int .i64 0, .int .i64 0] := Z0
  have B1 : Below w.heap.size w W0.drew := B0.trans ((Grw.refl W0).drew.below.mono B0.size)
  clear X0 Z0 B0
  refine region_til [14, 23] (fun w' => Own w' w.heap.size 43 #[.int .i64 xk, .string T, .int .u32 (xi : Int), .int .u64 (xh : Int), .bool xa, .bool xb, .int .u64 (rn : Int), .int .u64 (re : Int), .int .i64 rr, .int .u64 (rm : Int), .slice a k c, .int .u64 (vn : Int), .int .u64 (ve : Int), .int .i64 vr, .int .u64 (vm : Int), .int .u64 (xn : Int), .int .i64 xx, .int .i64 xt]) (by kernel_rfl) ?_
  generalize W0.drew = wd at *
  have hTil : ∀ l, tilD [14, 23] (fun w' => Own w' w.heap.size 43 #[.int .i64 xk, .string T, .int .u32 (xi : Int), .int .u64 (xh : Int), .bool xa, .bool xb, .int .u64 (rn : Int), .int .u64 (re : Int), .int .i64 rr, .int .u64 (rm : Int), .slice a k c, .int .u64 (vn : Int), .int .u64 (ve : Int), .int .i64 vr, .int .u64 (vm : Int), .int .u64 (xn : Int), .int .i64 xx, .int .i64 xt]) l wd := fun _ => .inr X1
  refine til_pure (i := 0) (v := .pointer (some ⟨w.heap.size, 0, none⟩)) 3 rfl rfl (by kernel_rfl) (by kernel_rfl) (by kernel_rfl) (by kernel_rfl) (fun _ _ _ h => h) (.inl ⟨by kernel_rfl, fun w' _ => by (go_simp)⟩) (hTil _) ?_
  (try simp only [Act.put, List.setIfInBounds_toArray, List.set_cons_zero, List.set_cons_succ])
  refine til_load (i := 1) (c := 23) (v := .int .i64 xk) 4 rfl rfl (by kernel_rfl) (by kernel_rfl) (by kernel_rfl) (by kernel_rfl) rfl (by kernel_rfl) (by decide) (by kernel_rfl) (fun _ _ _ h => h) (.inl ⟨by kernel_rfl, fun w' hS => by (have hc0 := Own.at_ hS 0 _ rfl; go_simp)⟩) (hTil _) ?_
  (try simp only [Act.put, List.setIfInBounds_toArray, List.set_cons_zero, List.set_cons_succ])
  refine til_pure (i := 2) (v := .pointer (some ⟨w.heap.size, 1, none⟩)) 5 rfl rfl (by kernel_rfl) (by kernel_rfl) (by kernel_rfl) (by kernel_rfl) (fun _ _ _ h => h) (.inl ⟨by kernel_rfl, fun w' _ => by (go_simp)⟩) (hTil _) ?_
  (try simp only [Act.put, List.setIfInBounds_toArray, List.set_cons_zero, List.set_cons_succ])
  refine til_load (i := 3) (c := 23) (v := .string T) 6 rfl rfl (by kernel_rfl) (by kernel_rfl) (by kernel_rfl) (by kernel_rfl) rfl (by kernel_rfl) (by decide) (by kernel_rfl) (fun _ _ _ h => h) (.inl ⟨by kernel_rfl, fun w' hS => by (have hc1 := Own.at_ hS 1 _ rfl; go_simp)⟩) (hTil _) ?_
  (try simp only [Act.put, List.setIfInBounds_toArray, List.set_cons_zero, List.set_cons_succ])
  refine til_pure (i := 4) (v := .pointer (some ⟨w.heap.size, 2, none⟩)) 7 rfl rfl (by kernel_rfl) (by kernel_rfl) (by kernel_rfl) (by kernel_rfl) (fun _ _ _ h => h) (.inl ⟨by kernel_rfl, fun w' _ => by (go_simp)⟩) (hTil _) ?_
  (try simp only [Act.put, List.setIfInBounds_toArray, List.set_cons_zero, List.set_cons_succ])
  refine til_load (i := 5) (c := 23) (v := .int .u32 (xi : Int)) 8 rfl rfl (by kernel_rfl) (by kernel_rfl) (by kernel_rfl) (by kernel_rfl) rfl (by kernel_rfl) (by decide) (by kernel_rfl) (fun _ _ _ h => h) (.inl ⟨by kernel_rfl, fun w' hS => by (have hc2 := Own.at_ hS 2 _ rfl; go_simp)⟩) (hTil _) ?_
  (try simp only [Act.put, List.setIfInBounds_toArray, List.set_cons_zero, List.set_cons_succ])
  refine til_pure (i := 6) (v := .pointer (some ⟨w.heap.size, 3, none⟩)) 9 rfl rfl (by kernel_rfl) (by kernel_rfl) (by kernel_rfl) (by kernel_rfl) (fun _ _ _ h => h) (.inl ⟨by kernel_rfl, fun w' _ => by (go_simp)⟩) (hTil _) ?_
  (try simp only [Act.put, List.setIfInBounds_toArray, List.set_cons_zero, List.set_cons_succ])
  refine til_load (i := 7) (c := 23) (v := .int .u64 (xh : Int)) 10 rfl rfl (by kernel_rfl) (by kernel_rfl) (by kernel_rfl) (by kernel_rfl) rfl (by kernel_rfl) (by decide) (by kernel_rfl) (fun _ _ _ h => h) (.inl ⟨by kernel_rfl, fun w' hS => by (have hc3 := Own.at_ hS 3 _ rfl; go_simp)⟩) (hTil _) ?_
  (try simp only [Act.put, List.setIfInBounds_toArray, List.set_cons_zero, List.set_cons_succ])
  refine til_pure (i := 8) (v := .pointer (some ⟨w.heap.size, 4, none⟩)) 11 rfl rfl (by kernel_rfl) (by kernel_rfl) (by kernel_rfl) (by kernel_rfl) (fun _ _ _ h => h) (.inl ⟨by kernel_rfl, fun w' _ => by (go_simp)⟩) (hTil _) ?_
  (try simp only [Act.put, List.setIfInBounds_toArray, List.set_cons_zero, List.set_cons_succ])
  refine til_load (i := 9) (c := 23) (v := .bool xa) 12 rfl rfl (by kernel_rfl) (by kernel_rfl) (by kernel_rfl) (by kernel_rfl) rfl (by kernel_rfl) (by decide) (by kernel_rfl) (fun _ _ _ h => h) (.inl ⟨by kernel_rfl, fun w' hS => by (have hc4 := Own.at_ hS 4 _ rfl; go_simp)⟩) (hTil _) ?_
  (try simp only [Act.put, List.setIfInBounds_toArray, List.set_cons_zero, List.set_cons_succ])
  refine til_pure (i := 10) (v := .pointer (some ⟨w.heap.size, 5, none⟩)) 13 rfl rfl (by kernel_rfl) (by kernel_rfl) (by kernel_rfl) (by kernel_rfl) (fun _ _ _ h => h) (.inl ⟨by kernel_rfl, fun w' _ => by (go_simp)⟩) (hTil _) ?_
  (try simp only [Act.put, List.setIfInBounds_toArray, List.set_cons_zero, List.set_cons_succ])
  refine til_load (i := 11) (c := 23) (v := .bool xb) 14 rfl rfl (by kernel_rfl) (by kernel_rfl) (by kernel_rfl) (by kernel_rfl) rfl (by kernel_rfl) (by decide) (by kernel_rfl) (fun _ _ _ h => h) (.inl ⟨by kernel_rfl, fun w' hS => by (have hc5 := Own.at_ hS 5 _ rfl; go_simp)⟩) (hTil _) ?_
  (try simp only [Act.put, List.setIfInBounds_toArray, List.set_cons_zero, List.set_cons_succ])
  refine til_pure (i := 12) (v := .pointer (some ⟨w.heap.size, 6, none⟩)) 15 rfl rfl (by kernel_rfl) (by kernel_rfl) (by kernel_rfl) (by kernel_rfl) (fun _ _ _ h => h) (.inl ⟨by kernel_rfl, fun w' _ => by (go_simp)⟩) (hTil _) ?_
  (try simp only [Act.put, List.setIfInBounds_toArray, List.set_cons_zero, List.set_cons_succ])
  refine til_load (i := 13) (c := 14) (v := .agg #[.int .u64 (rn : Int), .int .u64 (re : Int), .int .i64 rr, .int .u64 (rm : Int), .slice a k c]) 16 rfl rfl (by kernel_rfl) (by kernel_rfl) (by kernel_rfl) (by kernel_rfl) rfl (by kernel_rfl) (by decide) (by kernel_rfl) (fun _ _ _ h => h) (.inl ⟨by kernel_rfl, fun w' hS => by (have hc6 := Own.at_ hS 6 _ rfl; have hc7 := Own.at_ hS 7 _ rfl; have hc8 := Own.at_ hS 8 _ rfl; have hc9 := Own.at_ hS 9 _ rfl; have hc10 := Own.at_ hS 10 _ rfl; go_simp)⟩) (hTil _) ?_
  (try simp only [Act.put, List.setIfInBounds_toArray, List.set_cons_zero, List.set_cons_succ])
  refine til_pure (i := 15) (v := .pointer (some ⟨w.heap.size, 11, none⟩)) 18 rfl rfl (by kernel_rfl) (by kernel_rfl) (by kernel_rfl) (by kernel_rfl) (fun _ _ _ h => h) (.inl ⟨by kernel_rfl, fun w' _ => by (go_simp)⟩) (hTil _) ?_
  (try simp only [Act.put, List.setIfInBounds_toArray, List.set_cons_zero, List.set_cons_succ])
  refine til_load (i := 16) (c := 23) (v := .agg #[.int .u64 (vn : Int), .int .u64 (ve : Int), .int .i64 vr, .int .u64 (vm : Int)]) 19 rfl rfl (by kernel_rfl) (by kernel_rfl) (by kernel_rfl) (by kernel_rfl) rfl (by kernel_rfl) (by decide) (by kernel_rfl) (fun _ _ _ h => h) (.inl ⟨by kernel_rfl, fun w' hS => by (have hc11 := Own.at_ hS 11 _ rfl; have hc12 := Own.at_ hS 12 _ rfl; have hc13 := Own.at_ hS 13 _ rfl; have hc14 := Own.at_ hS 14 _ rfl; go_simp)⟩) (hTil _) ?_
  (try simp only [Act.put, List.setIfInBounds_toArray, List.set_cons_zero, List.set_cons_succ])
  refine til_pure (i := 17) (v := .pointer (some ⟨w.heap.size, 15, none⟩)) 20 rfl rfl (by kernel_rfl) (by kernel_rfl) (by kernel_rfl) (by kernel_rfl) (fun _ _ _ h => h) (.inl ⟨by kernel_rfl, fun w' _ => by (go_simp)⟩) (hTil _) ?_
  (try simp only [Act.put, List.setIfInBounds_toArray, List.set_cons_zero, List.set_cons_succ])
  refine til_load (i := 18) (c := 23) (v := .int .u64 (xn : Int)) 21 rfl rfl (by kernel_rfl) (by kernel_rfl) (by kernel_rfl) (by kernel_rfl) rfl (by kernel_rfl) (by decide) (by kernel_rfl) (fun _ _ _ h => h) (.inl ⟨by kernel_rfl, fun w' hS => by (have hc15 := Own.at_ hS 15 _ rfl; go_simp)⟩) (hTil _) ?_
  (try simp only [Act.put, List.setIfInBounds_toArray, List.set_cons_zero, List.set_cons_succ])
  refine til_pure (i := 19) (v := .pointer (some ⟨w.heap.size, 16, none⟩)) 22 rfl rfl (by kernel_rfl) (by kernel_rfl) (by kernel_rfl) (by kernel_rfl) (fun _ _ _ h => h) (.inl ⟨by kernel_rfl, fun w' _ => by (go_simp)⟩) (hTil _) ?_
  (try simp only [Act.put, List.setIfInBounds_toArray, List.set_cons_zero, List.set_cons_succ])
  refine til_load (i := 20) (c := 23) (v := .int .i64 xx) 23 rfl rfl (by kernel_rfl) (by kernel_rfl) (by kernel_rfl) (by kernel_rfl) rfl (by kernel_rfl) (by decide) (by kernel_rfl) (fun _ _ _ h => h) (.inl ⟨by kernel_rfl, fun w' hS => by (have hc16 := Own.at_ hS 16 _ rfl; go_simp)⟩) (hTil _) ?_
  (try simp only [Act.put, List.setIfInBounds_toArray, List.set_cons_zero, List.set_cons_succ])
  refine til_pure (i := 21) (v := .pointer (some ⟨w.heap.size, 17, none⟩)) 24 rfl rfl (by kernel_rfl) (by kernel_rfl) (by kernel_rfl) (by kernel_rfl) (fun _ _ _ h => h) (.inl ⟨by kernel_rfl, fun w' _ => by (go_simp)⟩) (hTil _) ?_
  (try simp only [Act.put, List.setIfInBounds_toArray, List.set_cons_zero, List.set_cons_succ])
  refine til_load (i := 22) (c := 23) (v := .int .i64 xt) 25 rfl rfl (by kernel_rfl) (by kernel_rfl) (by kernel_rfl) (by kernel_rfl) rfl (by kernel_rfl) (by decide) (by kernel_rfl) (fun _ _ _ h => h) (.inl ⟨by kernel_rfl, fun w' hS => by (have hc17 := Own.at_ hS 17 _ rfl; go_simp)⟩) (hTil _) ?_
  (try simp only [Act.put, List.setIfInBounds_toArray, List.set_cons_zero, List.set_cons_succ])
  clear hTil
  refine til_next (i := 14) (by kernel_rfl) rfl (by kernel_rfl) (fun K hK => ?_)
  go_simp
  refine (lrec rn re rr rm a k c wd).mono ?_
  rintro e w3 ⟨rfl, L3⟩
  have X3 := X1.below L3 X1.lt
  have Z3 := Z1.below L3 Z1.lt
  have B3 := B1.trans (L3.mono B1.size)
  refine hK.out _ _ (.inr X3) ?_
  clear hK K X1 Z1 B1 L3
  (try simp only [Act.put, List.setIfInBounds_toArray, List.set_cons_zero, List.set_cons_succ])
  have hTil : ∀ l, tilD [14, 23] (fun w' => Own w' w.heap.size 43 #[.int .i64 xk, .string T, .int .u32 (xi : Int), .int .u64 (xh : Int), .bool xa, .bool xb, .int .u64 (rn : Int), .int .u64 (re : Int), .int .i64 rr, .int .u64 (rm : Int), .slice a k c, .int .u64 (vn : Int), .int .u64 (ve : Int), .int .i64 vr, .int .u64 (vm : Int), .int .u64 (xn : Int), .int .i64 xx, .int .i64 xt]) l w3 := fun _ => .inr X3
  clear hTil
  refine til_next (i := 23) (by kernel_rfl) rfl (by kernel_rfl) (fun K hK => ?_)
  go_simp
  refine hK.out _ _ (.inl (by kernel_rfl)) ?_
  clear hK K
  (try simp only [Act.put, List.setIfInBounds_toArray, List.set_cons_zero, List.set_cons_succ])
  have HB := Lib.hid (belowRow18 B3 (w.heap.size + 1) (Nat.le_succ _) (#[.int .i64 xk, .string T, .int .u32 (xi : Int), .int .u64 (xh : Int), .bool xa, .bool xb, .int .u64 (rn : Int), .int .u64 (re : Int), .int .i64 rr, .int .u64 (rm : Int), .slice a k c, .int .u64 (vn : Int), .int .u64 (ve : Int), .int .i64 vr, .int .u64 (vm : Int), .int .u64 (xn : Int), .int .i64 xx, .int .i64 xt]))
  refine til_next (i := 24) (by kernel_rfl) rfl (by kernel_rfl) (fun K hK => ?_)
  refine wp_store_row 47 (.tmp 2) (.tmp 26) rfl (w.heap.size + 1) _ rfl rfl 47 _ Z3 ditem_size rfl (encI_one ⟨xk, [], xi, xh, xa, xb, ⟨⟨rn, re, rr, rm⟩, []⟩, ⟨vn, ve, vr, vm⟩, xn, xx, xt⟩ T a k c) ?_
  refine hK.out _ _ (.inl (by kernel_rfl)) ?_
  clear hK K
  refine til_done (by kernel_rfl) ?_ _
  go_wp2
  (try simp only [Exit.inBlock, Exit.then])
  exact bodyPost_ret (results_dit (x := ⟨xk, [], xi, xh, xa, xb, ⟨⟨rn, re, rr, rm⟩, []⟩, ⟨vn, ve, vr, vm⟩, xn, xx, xt⟩) (T := T) (a := a) (k := k) (c := c) rfl _ _ (w.heap.size + 1) rfl (Z3.row _)) rfl ⟨rfl, HB.out⟩
set_option maxHeartbeats 8000000 in
theorem dsame_yes (w : World) (rn re : Nat) (rr : Int) (rm : Nat) (L : List Vw) (a : Option Addr) (k c : Nat) (a' : Option Addr) (k' c' : Nat) (h1 : VwL w a k L) (h2 : VwL w a' k' L) (hk : k ≤ 100000) (hk' : k' ≤ 100000) :
    Calls Try.prog 17 #[.agg #[.int .u64 (rn : Int), .int .u64 (re : Int), .int .i64 rr, .int .u64 (rm : Int), .slice a k c], .agg #[.int .u64 (rn : Int), .int .u64 (re : Int), .int .i64 rr, .int .u64 (rm : Int), .slice a' k' c']] w fun e w' => e = .returned (.bool true) ∧ Below w.heap.size w w' := by
  obtain ⟨X0, Y0, B0⟩ := two_new w 37 37 #[.int .u64 (rn : Int), .int .u64 (re : Int), .int .i64 rr, .int .u64 (rm : Int), .slice a k c] #[.int .u64 (rn : Int), .int .u64 (re : Int), .int .i64 rr, .int .u64 (rm : Int), .slice a' k' c']
  have PV := rviews (h1.below B0) (h2.below B0) c c' hk hk'
  rw [decide_eq_true rfl] at PV
  have he := fun W => eql_vw ⟨rn, re, rr, rm⟩ ⟨rn, re, rr, rm⟩ W
  rw [decide_eq_true rfl] at he
  unfold valV encV at he
  clear h1 h2
  go_enter Try.func17, Try.ntmps17
  go_upto_region 1 with fail
  generalize (w.alloc (.cells #[.int .u64 (rn : Int), .int .u64 (re : Int), .int .i64 rr, .int .u64 (rm : Int), .slice a k c] 37)).alloc (.cells #[.int .u64 (rn : Int), .int .u64 (re : Int), .int .i64 rr, .int .u64 (rm : Int), .slice a' k' c'] 37) = W0 at *
  have x0 : W0.cell? ⟨w.heap.size, 0, none⟩ = some (.int .u64 (rn : Int)) := X0.at_ 0 _ rfl
  have x1 : W0.cell? ⟨w.heap.size, 1, none⟩ = some (.int .u64 (re : Int)) := X0.at_ 1 _ rfl
  have x2 : W0.cell? ⟨w.heap.size, 2, none⟩ = some (.int .i64 rr) := X0.at_ 2 _ rfl
  have x3 : W0.cell? ⟨w.heap.size, 3, none⟩ = some (.int .u64 (rm : Int)) := X0.at_ 3 _ rfl
  have x4 : W0.cell? ⟨w.heap.size, 4, none⟩ = some (.slice a k c) := X0.at_ 4 _ rfl
  have y0 : W0.cell? ⟨w.heap.size + 1, 0, none⟩ = some (.int .u64 (rn : Int)) := Y0.at_ 0 _ rfl
  have y1 : W0.cell? ⟨w.heap.size + 1, 1, none⟩ = some (.int .u64 (re : Int)) := Y0.at_ 1 _ rfl
  have y2 : W0.cell? ⟨w.heap.size + 1, 2, none⟩ = some (.int .i64 rr) := Y0.at_ 2 _ rfl
  have y3 : W0.cell? ⟨w.heap.size + 1, 3, none⟩ = some (.int .u64 (rm : Int)) := Y0.at_ 3 _ rfl
  have y4 : W0.cell? ⟨w.heap.size + 1, 4, none⟩ = some (.slice a' k' c') := Y0.at_ 4 _ rfl
  clear X0 Y0
  go_wp2_with fail
  refine PV.mono ?_
  rintro e w1 ⟨rfl, L1⟩
  have HB := Lib.hid (B0.trans (L1.mono B0.size))
  clear PV B0 L1 he
  go_wp2
  go_ret
  exact ⟨rfl, HB.out⟩
set_option maxHeartbeats 8000000 in
theorem dstables_yes (w : World) (ep ic rn re : Nat) (rr : Int) (rm : Nat) (L : List Vw) (a : Option Addr) (k c : Nat) (a' : Option Addr) (k' c' : Nat) (h1 : VwL w a k L) (h2 : VwL w a' k' L) (hk : k ≤ 100000) (hk' : k' ≤ 100000) :
    Calls Try.prog 11 #[.agg #[.int .u64 (ep : Int), .int .u32 (ic : Int), .int .u64 (rn : Int), .int .u64 (re : Int), .int .i64 rr, .int .u64 (rm : Int), .slice a k c], .agg #[.int .u64 (ep : Int), .int .u32 (ic : Int), .int .u64 (rn : Int), .int .u64 (re : Int), .int .i64 rr, .int .u64 (rm : Int), .slice a' k' c']] w fun e w' => e = .returned (.bool true) ∧ Below w.heap.size w w' := by
  obtain ⟨X0, Y0, B0⟩ := two_new w 39 39 #[.int .u64 (ep : Int), .int .u32 (ic : Int), .int .u64 (rn : Int), .int .u64 (re : Int), .int .i64 rr, .int .u64 (rm : Int), .slice a k c] #[.int .u64 (ep : Int), .int .u32 (ic : Int), .int .u64 (rn : Int), .int .u64 (re : Int), .int .i64 rr, .int .u64 (rm : Int), .slice a' k' c']
  have PS := dsame_yes _ rn re rr rm L a k c a' k' c' (h1.below B0) (h2.below B0) hk hk'
  clear h1 h2
  go_enter Try.func11, Try.ntmps11
  go_upto_region 1 with fail
  generalize (w.alloc (.cells #[.int .u64 (ep : Int), .int .u32 (ic : Int), .int .u64 (rn : Int), .int .u64 (re : Int), .int .i64 rr, .int .u64 (rm : Int), .slice a k c] 39)).alloc (.cells #[.int .u64 (ep : Int), .int .u32 (ic : Int), .int .u64 (rn : Int), .int .u64 (re : Int), .int .i64 rr, .int .u64 (rm : Int), .slice a' k' c'] 39) = W0 at *
  have x0 : W0.cell? ⟨w.heap.size, 0, none⟩ = some (.int .u64 (ep : Int)) := X0.at_ 0 _ rfl
  have x1 : W0.cell? ⟨w.heap.size, 1, none⟩ = some (.int .u32 (ic : Int)) := X0.at_ 1 _ rfl
  have x2 : W0.cell? ⟨w.heap.size, 2, none⟩ = some (.int .u64 (rn : Int)) := X0.at_ 2 _ rfl
  have x3 : W0.cell? ⟨w.heap.size, 3, none⟩ = some (.int .u64 (re : Int)) := X0.at_ 3 _ rfl
  have x4 : W0.cell? ⟨w.heap.size, 4, none⟩ = some (.int .i64 rr) := X0.at_ 4 _ rfl
  have x5 : W0.cell? ⟨w.heap.size, 5, none⟩ = some (.int .u64 (rm : Int)) := X0.at_ 5 _ rfl
  have x6 : W0.cell? ⟨w.heap.size, 6, none⟩ = some (.slice a k c) := X0.at_ 6 _ rfl
  have y0 : W0.cell? ⟨w.heap.size + 1, 0, none⟩ = some (.int .u64 (ep : Int)) := Y0.at_ 0 _ rfl
  have y1 : W0.cell? ⟨w.heap.size + 1, 1, none⟩ = some (.int .u32 (ic : Int)) := Y0.at_ 1 _ rfl
  have y2 : W0.cell? ⟨w.heap.size + 1, 2, none⟩ = some (.int .u64 (rn : Int)) := Y0.at_ 2 _ rfl
  have y3 : W0.cell? ⟨w.heap.size + 1, 3, none⟩ = some (.int .u64 (re : Int)) := Y0.at_ 3 _ rfl
  have y4 : W0.cell? ⟨w.heap.size + 1, 4, none⟩ = some (.int .i64 rr) := Y0.at_ 4 _ rfl
  have y5 : W0.cell? ⟨w.heap.size + 1, 5, none⟩ = some (.int .u64 (rm : Int)) := Y0.at_ 5 _ rfl
  have y6 : W0.cell? ⟨w.heap.size + 1, 6, none⟩ = some (.slice a' k' c') := Y0.at_ 6 _ rfl
  clear X0 Y0
  go_wp2_with fail
  refine PS.mono ?_
  rintro e w1 ⟨rfl, L1⟩
  have HB := Lib.hid (B0.trans (L1.mono B0.size))
  clear PS B0 L1
  go_wp2
  go_ret
  exact ⟨rfl, HB.out⟩
set_option maxHeartbeats 16000000 in
theorem ditems_yes (w : World) (xk : Int) (T : ByteArray) (xi xh : Nat) (xa xb : Bool) (rn re : Nat) (rr : Int) (rm : Nat) (L : List Vw) (a : Option Addr) (k c : Nat) (a' : Option Addr) (k' c' vn ve : Nat) (vr : Int) (vm xn : Nat) (xx xt : Int) (h1 : VwL w a k L) (h2 : VwL w a' k' L) (hk : k ≤ 100000) (hk' : k' ≤ 100000) :
    Calls Try.prog 13 #[.agg #[.int .i64 xk, .string T, .int .u32 (xi : Int), .int .u64 (xh : Int), .bool xa, .bool xb, .int .u64 (rn : Int), .int .u64 (re : Int), .int .i64 rr, .int .u64 (rm : Int), .slice a k c, .int .u64 (vn : Int), .int .u64 (ve : Int), .int .i64 vr, .int .u64 (vm : Int), .int .u64 (xn : Int), .int .i64 xx, .int .i64 xt], .agg #[.int .i64 xk, .string T, .int .u32 (xi : Int), .int .u64 (xh : Int), .bool xa, .bool xb, .int .u64 (rn : Int), .int .u64 (re : Int), .int .i64 rr, .int .u64 (rm : Int), .slice a' k' c', .int .u64 (vn : Int), .int .u64 (ve : Int), .int .i64 vr, .int .u64 (vm : Int), .int .u64 (xn : Int), .int .i64 xx, .int .i64 xt]] w fun e w' => e = .returned (.bool true) ∧ Below w.heap.size w w' := by
  obtain ⟨X0, Y0, B0⟩ := two_new w 47 47 #[.int .i64 xk, .string T, .int .u32 (xi : Int), .int .u64 (xh : Int), .bool xa, .bool xb, .int .u64 (rn : Int), .int .u64 (re : Int), .int .i64 rr, .int .u64 (rm : Int), .slice a k c, .int .u64 (vn : Int), .int .u64 (ve : Int), .int .i64 vr, .int .u64 (vm : Int), .int .u64 (xn : Int), .int .i64 xx, .int .i64 xt] #[.int .i64 xk, .string T, .int .u32 (xi : Int), .int .u64 (xh : Int), .bool xa, .bool xb, .int .u64 (rn : Int), .int .u64 (re : Int), .int .i64 rr, .int .u64 (rm : Int), .slice a' k' c', .int .u64 (vn : Int), .int .u64 (ve : Int), .int .i64 vr, .int .u64 (vm : Int), .int .u64 (xn : Int), .int .i64 xx, .int .i64 xt]
  have PS := dsame_yes _ rn re rr rm L a k c a' k' c' (h1.below B0) (h2.below B0) hk hk'
  have he := fun W => eql_vw ⟨vn, ve, vr, vm⟩ ⟨vn, ve, vr, vm⟩ W
  rw [decide_eq_true rfl] at he
  unfold valV encV at he
  clear h1 h2
  go_enter Try.func13, Try.ntmps13
  go_upto_region 1 with fail
  generalize (w.alloc (.cells #[.int .i64 xk, .string T, .int .u32 (xi : Int), .int .u64 (xh : Int), .bool xa, .bool xb, .int .u64 (rn : Int), .int .u64 (re : Int), .int .i64 rr, .int .u64 (rm : Int), .slice a k c, .int .u64 (vn : Int), .int .u64 (ve : Int), .int .i64 vr, .int .u64 (vm : Int), .int .u64 (xn : Int), .int .i64 xx, .int .i64 xt] 47)).alloc (.cells #[.int .i64 xk, .string T, .int .u32 (xi : Int), .int .u64 (xh : Int), .bool xa, .bool xb, .int .u64 (rn : Int), .int .u64 (re : Int), .int .i64 rr, .int .u64 (rm : Int), .slice a' k' c', .int .u64 (vn : Int), .int .u64 (ve : Int), .int .i64 vr, .int .u64 (vm : Int), .int .u64 (xn : Int), .int .i64 xx, .int .i64 xt] 47) = W0 at *
  have x0 : W0.cell? ⟨w.heap.size, 0, none⟩ = some (.int .i64 xk) := X0.at_ 0 _ rfl
  have x1 : W0.cell? ⟨w.heap.size, 1, none⟩ = some (.string T) := X0.at_ 1 _ rfl
  have x2 : W0.cell? ⟨w.heap.size, 2, none⟩ = some (.int .u32 (xi : Int)) := X0.at_ 2 _ rfl
  have x3 : W0.cell? ⟨w.heap.size, 3, none⟩ = some (.int .u64 (xh : Int)) := X0.at_ 3 _ rfl
  have x4 : W0.cell? ⟨w.heap.size, 4, none⟩ = some (.bool xa) := X0.at_ 4 _ rfl
  have x5 : W0.cell? ⟨w.heap.size, 5, none⟩ = some (.bool xb) := X0.at_ 5 _ rfl
  have x6 : W0.cell? ⟨w.heap.size, 6, none⟩ = some (.int .u64 (rn : Int)) := X0.at_ 6 _ rfl
  have x7 : W0.cell? ⟨w.heap.size, 7, none⟩ = some (.int .u64 (re : Int)) := X0.at_ 7 _ rfl
  have x8 : W0.cell? ⟨w.heap.size, 8, none⟩ = some (.int .i64 rr) := X0.at_ 8 _ rfl
  have x9 : W0.cell? ⟨w.heap.size, 9, none⟩ = some (.int .u64 (rm : Int)) := X0.at_ 9 _ rfl
  have x10 : W0.cell? ⟨w.heap.size, 10, none⟩ = some (.slice a k c) := X0.at_ 10 _ rfl
  have x11 : W0.cell? ⟨w.heap.size, 11, none⟩ = some (.int .u64 (vn : Int)) := X0.at_ 11 _ rfl
  have x12 : W0.cell? ⟨w.heap.size, 12, none⟩ = some (.int .u64 (ve : Int)) := X0.at_ 12 _ rfl
  have x13 : W0.cell? ⟨w.heap.size, 13, none⟩ = some (.int .i64 vr) := X0.at_ 13 _ rfl
  have x14 : W0.cell? ⟨w.heap.size, 14, none⟩ = some (.int .u64 (vm : Int)) := X0.at_ 14 _ rfl
  have x15 : W0.cell? ⟨w.heap.size, 15, none⟩ = some (.int .u64 (xn : Int)) := X0.at_ 15 _ rfl
  have x16 : W0.cell? ⟨w.heap.size, 16, none⟩ = some (.int .i64 xx) := X0.at_ 16 _ rfl
  have x17 : W0.cell? ⟨w.heap.size, 17, none⟩ = some (.int .i64 xt) := X0.at_ 17 _ rfl
  have y0 : W0.cell? ⟨w.heap.size + 1, 0, none⟩ = some (.int .i64 xk) := Y0.at_ 0 _ rfl
  have y1 : W0.cell? ⟨w.heap.size + 1, 1, none⟩ = some (.string T) := Y0.at_ 1 _ rfl
  have y2 : W0.cell? ⟨w.heap.size + 1, 2, none⟩ = some (.int .u32 (xi : Int)) := Y0.at_ 2 _ rfl
  have y3 : W0.cell? ⟨w.heap.size + 1, 3, none⟩ = some (.int .u64 (xh : Int)) := Y0.at_ 3 _ rfl
  have y4 : W0.cell? ⟨w.heap.size + 1, 4, none⟩ = some (.bool xa) := Y0.at_ 4 _ rfl
  have y5 : W0.cell? ⟨w.heap.size + 1, 5, none⟩ = some (.bool xb) := Y0.at_ 5 _ rfl
  have y6 : W0.cell? ⟨w.heap.size + 1, 6, none⟩ = some (.int .u64 (rn : Int)) := Y0.at_ 6 _ rfl
  have y7 : W0.cell? ⟨w.heap.size + 1, 7, none⟩ = some (.int .u64 (re : Int)) := Y0.at_ 7 _ rfl
  have y8 : W0.cell? ⟨w.heap.size + 1, 8, none⟩ = some (.int .i64 rr) := Y0.at_ 8 _ rfl
  have y9 : W0.cell? ⟨w.heap.size + 1, 9, none⟩ = some (.int .u64 (rm : Int)) := Y0.at_ 9 _ rfl
  have y10 : W0.cell? ⟨w.heap.size + 1, 10, none⟩ = some (.slice a' k' c') := Y0.at_ 10 _ rfl
  have y11 : W0.cell? ⟨w.heap.size + 1, 11, none⟩ = some (.int .u64 (vn : Int)) := Y0.at_ 11 _ rfl
  have y12 : W0.cell? ⟨w.heap.size + 1, 12, none⟩ = some (.int .u64 (ve : Int)) := Y0.at_ 12 _ rfl
  have y13 : W0.cell? ⟨w.heap.size + 1, 13, none⟩ = some (.int .i64 vr) := Y0.at_ 13 _ rfl
  have y14 : W0.cell? ⟨w.heap.size + 1, 14, none⟩ = some (.int .u64 (vm : Int)) := Y0.at_ 14 _ rfl
  have y15 : W0.cell? ⟨w.heap.size + 1, 15, none⟩ = some (.int .u64 (xn : Int)) := Y0.at_ 15 _ rfl
  have y16 : W0.cell? ⟨w.heap.size + 1, 16, none⟩ = some (.int .i64 xx) := Y0.at_ 16 _ rfl
  have y17 : W0.cell? ⟨w.heap.size + 1, 17, none⟩ = some (.int .i64 xt) := Y0.at_ 17 _ rfl
  clear X0 Y0
  go_wp2_with fail
  refine PS.mono ?_
  rintro e w1 ⟨rfl, L1⟩
  have L1' := L1
  have HB := Lib.hid (B0.trans (L1.mono B0.size))
  replace x0 := cell_later L1 x0
  replace y0 := cell_later L1 y0
  replace x1 := cell_later L1 x1
  replace y1 := cell_later L1 y1
  replace x2 := cell_later L1 x2
  replace y2 := cell_later L1 y2
  replace x3 := cell_later L1 x3
  replace y3 := cell_later L1 y3
  replace x4 := cell_later L1 x4
  replace y4 := cell_later L1 y4
  replace x5 := cell_later L1 x5
  replace y5 := cell_later L1 y5
  replace x6 := cell_later L1 x6
  replace y6 := cell_later L1 y6
  replace x7 := cell_later L1 x7
  replace y7 := cell_later L1 y7
  replace x8 := cell_later L1 x8
  replace y8 := cell_later L1 y8
  replace x9 := cell_later L1 x9
  replace y9 := cell_later L1 y9
  replace x10 := cell_later L1 x10
  replace y10 := cell_later L1 y10
  replace x11 := cell_later L1 x11
  replace y11 := cell_later L1 y11
  replace x12 := cell_later L1 x12
  replace y12 := cell_later L1 y12
  replace x13 := cell_later L1 x13
  replace y13 := cell_later L1 y13
  replace x14 := cell_later L1 x14
  replace y14 := cell_later L1 y14
  replace x15 := cell_later L1 x15
  replace y15 := cell_later L1 y15
  replace x16 := cell_later L1 x16
  replace y16 := cell_later L1 y16
  replace x17 := cell_later L1 x17
  replace y17 := cell_later L1 y17
  clear PS B0 L1 L1'
  go_wp2
  go_ret
  exact ⟨rfl, HB.out⟩
end Go.Proofs.Ytblefbjmjhgkkaa
