/- Write, Tear: the program's. -/
import Derived.Test.YtimdemidnleiiaaDiskNext
import Derived.Deep.RegionHeld3
set_option linter.unusedVariables false
set_option linter.unusedSimpArgs false
namespace Go.Proofs.Ytimdemidnleiiaa
open Go.RowKit Go.Sort

/-- A disk in memory. -/
structure DkAt (w : World) (g : Nat) (d : Dk) : Prop where
  own : Own w g 46 #[.string d.a, .string d.b]
  ok : d.ok
theorem DkAt.lt {w : World} {g : Nat} {d : Dk} (h : DkAt w g d) : g < w.heap.size := h.own.lt
theorem DkAt.below {w w' : World} {g : Nat} {d : Dk} (h : DkAt w g d) (hb : Below w.heap.size w w') : DkAt w' g d := ⟨h.own.below hb h.lt, h.ok⟩
theorem DkAt.grown {w w' : World} {g k : Nat} {d : Dk} (h : DkAt w g d) (hb : w.grownBy w' (some k)) (hk : g ≠ k) : DkAt w' g d := ⟨h.own.grown hb (by intro e; cases e; exact hk rfl), h.ok⟩
theorem dgrown_below {w w' : World} (h : Below w.heap.size w w') (o : Option Nat) : w.grownBy w' o := ⟨h.os, h.tape, h.output, h.size, fun k hk _ => h.block k hk⟩
theorem dgrown_tr {w w' w'' : World} {o : Option Nat} (h : w.grownBy w' o) (k : w'.grownBy w'' o) : w.grownBy w'' o :=
  ⟨k.os.trans h.os, k.tape.trans h.tape, k.output.trans h.output, Nat.le_trans h.size k.size, fun i hi ho => (k.block i (Nat.lt_of_lt_of_le hi h.size) ho).trans (h.block i hi ho)⟩
theorem dgrown_set (w : World) (g j : Nat) (v : Value) : w.grownBy (w.setCell ⟨g, j, none⟩ v) (some g) :=
  ⟨rfl, rfl, rfl, by simp, fun k hk ho => heap_setCell_other w ⟨g, j, none⟩ k v (by intro e; apply ho; rw [e])⟩
/-- Take an operation first; its slot by its number. -/
theorem dtake {P : Program} {md : Region.Mode} {ops : Array Oper} {Q : Exit → Act → World → Prop} {S : World → Prop} {i : Nat} {oi : Oper} {v : Value} {fuel : Nat} {listed : Array Bool} {a : Act} {w : World} (d : Nat) (hi : ops[i]? = some oi) (hd : oi.dst = some d)
    (hs : Region.noSelect ops = true) (hf : Region.free md ops listed i = true) (hr : (Region.ready md ops listed).contains i = true)
    (hQ : ∀ c a w, Q (.panic c) (a.put oi.dst v) w → Q (.panic c) a w) (hy : YieldsIf P ops S oi v a) (hS : S w)
    (h : wpAnyH P md ops Q S fuel (listed.setIfInBounds i true) (a.put (some d) v) w) : wpAnyH P md ops Q S (fuel + 1) listed a w :=
  wpAnyH_take hi hs hf hr hQ hy hS (by rw [hd]; exact h)
theorem yields_drec {ops : Array Oper} {S : World → Prop} {op : Oper} {a : Act} (hw : Region.wanted op (yielded ops a.tmps) = true) (x : Operand) (ho : op.op = .load 50 x)
    (g : Nat) (hx : a.eval x = .pointer (some ⟨g, 0, none⟩)) {n : Nat} {t : ByteArray} (hS : ∀ w, S w → RecB w g n t) : YieldsIf Try.prog ops S op (.agg #[.int .u64 (n : Int), .string t]) a :=
  .inl ⟨hw, fun w hw' => by
    unfold execOp
    simp only [ho, hx, Instr.loadAt, Instr.sureAddr, Sem.run_bind, Sem.run_pure, Result.andThen_ok, drec_load w g (hS w hw')]⟩
/-- The disk's block, and a record's. -/
def DHeld (g r n : Nat) (s : ByteArray) (w : World) : Prop := (∃ a b : ByteArray, Own w g 46 #[.string a, .string b]) ∧ RecB w r n s

set_option maxHeartbeats 4000000 in
theorem dwrite_0 (a b : ByteArray) (hd : Dk.ok ⟨a, b⟩) (s : ByteArray) (hs : s.size ≤ 8192) (hi : nextI ⟨a, b⟩ = 0) (g : Nat) (w : World) (h : Own w g 46 #[.string a, .string b]) :
    Calls Try.prog 17 #[.pointer (some ⟨g, 0, none⟩), .string s] w fun e w' => e = .returned (.int .i64 0) ∧ Own w' g 46 #[.string (bytesS (nextN ⟨a, b⟩) s), .string b] ∧ w.grownBy w' (some g) := by
  have hnx := fun W => dnext ⟨a, b⟩ hd s W
  have hby := fun W => dbytes (nextN ⟨a, b⟩) s W (nextN_lt _) hs
  rw [hi] at hnx
  simp only at hnx
  have hsz : ¬ (8192 : Int) < (s.size : Int) := by omega
  have hgl := h.lt
  have HG := Lib.hid h
  clear hd hi
  generalize bytesS (nextN ⟨a, b⟩) s = x at *
  generalize nextN ⟨a, b⟩ = n at *
  go_enter Try.func17, Try.ntmps17
  go_upto_region 4 with (first | (refine load_slots rfl (.tmp 13) rfl g 46 rfl HG.out ?_) | (go_at_call 22; refine (hnx _).mono ?_; rintro e w1 ⟨rfl, L1⟩))
  clear hnx h
  have L2 : Below w.heap.size w (w1.alloc (Obj.cells #[Value.int IntKind.u64 (n : Int), Value.string s] 50)) := L1.trans (((Grw.refl w1).alloc _).below.mono L1.size)
  have HO := (HG.out.below L2 hgl).drew
  have HH : DHeld g w1.heap.size n s (w1.alloc (Obj.cells #[Value.int IntKind.u64 (n : Int), Value.string s] 50)).drew := ⟨⟨a, b, HO⟩, RecB.new w1 n s⟩
  have hgr : g ≠ w1.heap.size := by have := L1.size; omega
  clear L1
  generalize (w1.alloc (Obj.cells #[Value.int IntKind.u64 (n : Int), Value.string s] 50)) = w2 at *
  generalize w1.heap.size = r at *
  refine wp_region_held_drew (S := DHeld g r n s) (by kernel_rfl) HH (fun hHeld => ?_)
  have L3 := Lib.hid (L2.trans (((Grw.refl w2).drew).below.mono L2.size))
  clear HH L2
  generalize w2.drew = w3 at *
  refine dtake (i := 0) (v := .pointer (some ⟨g, 0, none⟩)) 19 rfl (by kernel_rfl) (by kernel_rfl) (by kernel_rfl) (by kernel_rfl) (fun _ _ _ h => h) (.inl ⟨by kernel_rfl, fun w' hS => by (go_simp)⟩) hHeld ?_
  (try simp only [Act.put, List.setIfInBounds_toArray, List.set_cons_zero, List.set_cons_succ])
  refine dtake (i := 1) (v := .int .i64 0) 20 rfl (by kernel_rfl) (by kernel_rfl) (by kernel_rfl) (by kernel_rfl) (fun _ _ _ h => h) (.inl ⟨by kernel_rfl, fun w' hS => by (go_simp)⟩) hHeld ?_
  (try simp only [Act.put, List.setIfInBounds_toArray, List.set_cons_zero, List.set_cons_succ])
  refine dtake (i := 2) (v := .agg #[.int .u64 (n : Int), .string s]) 21 rfl (by kernel_rfl) (by kernel_rfl) (by kernel_rfl) (by kernel_rfl) (fun _ _ _ h => h) (yields_drec (by kernel_rfl) (.tmp 6) rfl r (by kernel_rfl) (fun _ hS => hS.2)) hHeld ?_
  (try simp only [Act.put, List.setIfInBounds_toArray, List.set_cons_zero, List.set_cons_succ])
  refine dtake (i := 4) (v := .pointer (some ⟨g, 0, none⟩)) 23 rfl (by kernel_rfl) (by kernel_rfl) (by kernel_rfl) (by kernel_rfl) (fun _ _ _ h => h) (.inl ⟨by kernel_rfl, fun w' hS => by (go_simp)⟩) hHeld ?_
  (try simp only [Act.put, List.setIfInBounds_toArray, List.set_cons_zero, List.set_cons_succ])
  refine dtake (i := 5) (v := .pointer (some ⟨g, 0, none⟩)) 24 rfl (by kernel_rfl) (by kernel_rfl) (by kernel_rfl) (by kernel_rfl) (fun _ _ _ h => h) (.inl ⟨by kernel_rfl, fun w' hS => by (go_simp)⟩) hHeld ?_
  (try simp only [Act.put, List.setIfInBounds_toArray, List.set_cons_zero, List.set_cons_succ])
  have HS := Lib.hid hHeld
  refine wpAnyH_ready (rs := [3]) (by kernel_rfl) (by simp) (AllReadyH.cons rfl (fun K hK => ?_) AllReadyH.nil)
  clear hHeld
  rw [if_pos (by kernel_rfl)]
  go_simp
  refine (hby _).mono ?_
  rintro e w4 ⟨rfl, L4⟩
  have O4 := HO.below L4 HO.lt
  have H4 : DHeld g r n s w4 := ⟨⟨a, b, O4⟩, HS.out.2.later L4⟩
  have L5 := Lib.hid (L3.out.trans (L4.mono L3.out.size))
  refine hK.out _ _ H4 (fun hHeld => ?_)
  clear hK K HS L4 H4 HO
  (try simp only [Act.put, List.setIfInBounds_toArray, List.set_cons_zero, List.set_cons_succ])
  refine dtake (i := 6) (v := .pointer (some ⟨g, 0, none⟩)) 25 rfl (by kernel_rfl) (by kernel_rfl) (by kernel_rfl) (by kernel_rfl) (fun _ _ _ h => h) (.inl ⟨by kernel_rfl, fun w' hS => by (go_simp)⟩) hHeld ?_
  (try simp only [Act.put, List.setIfInBounds_toArray, List.set_cons_zero, List.set_cons_succ])
  have c0 := O4.at_ 0 _ rfl
  have f0 := O4.free 0
  have H5 := O4.set 0 (.string x)
  have H6 : DHeld g r n s (w4.setCell ⟨g, 0, none⟩ (.string x)) := ⟨⟨_, _, H5⟩, hHeld.2.own.set_other g 0 _ (Ne.symm hgr)⟩
  have HW := Lib.hid H5
  have HX := Lib.hid (dgrown_tr (dgrown_below L5.out (some g)) (dgrown_set w4 g 0 (.string x)))
  clear H5 O4
  refine wpAnyH_ready (rs := [7]) (by kernel_rfl) (by simp) (AllReadyH.cons rfl (fun K hK => ?_) AllReadyH.nil)
  clear hHeld
  rw [if_pos (by kernel_rfl)]
  go_simp
  refine hK.out _ _ H6 (fun hHeld => ?_)
  clear hK K hHeld H6
  refine wpAnyH_done (by kernel_rfl) ?_ _
  go_wp2
  go_ret
  exact ⟨rfl, HW.out, HX.out⟩

set_option maxHeartbeats 4000000 in
theorem dwrite_1 (a b : ByteArray) (hd : Dk.ok ⟨a, b⟩) (s : ByteArray) (hs : s.size ≤ 8192) (hi : nextI ⟨a, b⟩ = 1) (g : Nat) (w : World) (h : Own w g 46 #[.string a, .string b]) :
    Calls Try.prog 17 #[.pointer (some ⟨g, 0, none⟩), .string s] w fun e w' => e = .returned (.int .i64 0) ∧ Own w' g 46 #[.string a, .string (bytesS (nextN ⟨a, b⟩) s)] ∧ w.grownBy w' (some g) := by
  have hnx := fun W => dnext ⟨a, b⟩ hd s W
  have hby := fun W => dbytes (nextN ⟨a, b⟩) s W (nextN_lt _) hs
  rw [hi] at hnx
  simp only at hnx
  have hsz : ¬ (8192 : Int) < (s.size : Int) := by omega
  have hgl := h.lt
  have HG := Lib.hid h
  clear hd hi
  generalize bytesS (nextN ⟨a, b⟩) s = x at *
  generalize nextN ⟨a, b⟩ = n at *
  go_enter Try.func17, Try.ntmps17
  go_upto_region 4 with (first | (refine load_slots rfl (.tmp 13) rfl g 46 rfl HG.out ?_) | (go_at_call 22; refine (hnx _).mono ?_; rintro e w1 ⟨rfl, L1⟩))
  clear hnx h
  have L2 : Below w.heap.size w (w1.alloc (Obj.cells #[Value.int IntKind.u64 (n : Int), Value.string s] 50)) := L1.trans (((Grw.refl w1).alloc _).below.mono L1.size)
  have HO := (HG.out.below L2 hgl).drew
  have HH : DHeld g w1.heap.size n s (w1.alloc (Obj.cells #[Value.int IntKind.u64 (n : Int), Value.string s] 50)).drew := ⟨⟨a, b, HO⟩, RecB.new w1 n s⟩
  have hgr : g ≠ w1.heap.size := by have := L1.size; omega
  clear L1
  generalize (w1.alloc (Obj.cells #[Value.int IntKind.u64 (n : Int), Value.string s] 50)) = w2 at *
  generalize w1.heap.size = r at *
  refine wp_region_held_drew (S := DHeld g r n s) (by kernel_rfl) HH (fun hHeld => ?_)
  have L3 := Lib.hid (L2.trans (((Grw.refl w2).drew).below.mono L2.size))
  clear HH L2
  generalize w2.drew = w3 at *
  refine dtake (i := 0) (v := .pointer (some ⟨g, 0, none⟩)) 19 rfl (by kernel_rfl) (by kernel_rfl) (by kernel_rfl) (by kernel_rfl) (fun _ _ _ h => h) (.inl ⟨by kernel_rfl, fun w' hS => by (go_simp)⟩) hHeld ?_
  (try simp only [Act.put, List.setIfInBounds_toArray, List.set_cons_zero, List.set_cons_succ])
  refine dtake (i := 1) (v := .int .i64 1) 20 rfl (by kernel_rfl) (by kernel_rfl) (by kernel_rfl) (by kernel_rfl) (fun _ _ _ h => h) (.inl ⟨by kernel_rfl, fun w' hS => by (go_simp)⟩) hHeld ?_
  (try simp only [Act.put, List.setIfInBounds_toArray, List.set_cons_zero, List.set_cons_succ])
  refine dtake (i := 2) (v := .agg #[.int .u64 (n : Int), .string s]) 21 rfl (by kernel_rfl) (by kernel_rfl) (by kernel_rfl) (by kernel_rfl) (fun _ _ _ h => h) (yields_drec (by kernel_rfl) (.tmp 6) rfl r (by kernel_rfl) (fun _ hS => hS.2)) hHeld ?_
  (try simp only [Act.put, List.setIfInBounds_toArray, List.set_cons_zero, List.set_cons_succ])
  refine dtake (i := 4) (v := .pointer (some ⟨g, 0, none⟩)) 23 rfl (by kernel_rfl) (by kernel_rfl) (by kernel_rfl) (by kernel_rfl) (fun _ _ _ h => h) (.inl ⟨by kernel_rfl, fun w' hS => by (go_simp)⟩) hHeld ?_
  (try simp only [Act.put, List.setIfInBounds_toArray, List.set_cons_zero, List.set_cons_succ])
  refine dtake (i := 5) (v := .pointer (some ⟨g, 0, none⟩)) 24 rfl (by kernel_rfl) (by kernel_rfl) (by kernel_rfl) (by kernel_rfl) (fun _ _ _ h => h) (.inl ⟨by kernel_rfl, fun w' hS => by (go_simp)⟩) hHeld ?_
  (try simp only [Act.put, List.setIfInBounds_toArray, List.set_cons_zero, List.set_cons_succ])
  have HS := Lib.hid hHeld
  refine wpAnyH_ready (rs := [3]) (by kernel_rfl) (by simp) (AllReadyH.cons rfl (fun K hK => ?_) AllReadyH.nil)
  clear hHeld
  rw [if_pos (by kernel_rfl)]
  go_simp
  refine (hby _).mono ?_
  rintro e w4 ⟨rfl, L4⟩
  have O4 := HO.below L4 HO.lt
  have H4 : DHeld g r n s w4 := ⟨⟨a, b, O4⟩, HS.out.2.later L4⟩
  have L5 := Lib.hid (L3.out.trans (L4.mono L3.out.size))
  refine hK.out _ _ H4 (fun hHeld => ?_)
  clear hK K HS L4 H4 HO
  (try simp only [Act.put, List.setIfInBounds_toArray, List.set_cons_zero, List.set_cons_succ])
  refine dtake (i := 6) (v := .pointer (some ⟨g, 1, none⟩)) 25 rfl (by kernel_rfl) (by kernel_rfl) (by kernel_rfl) (by kernel_rfl) (fun _ _ _ h => h) (.inl ⟨by kernel_rfl, fun w' hS => by (go_simp)⟩) hHeld ?_
  (try simp only [Act.put, List.setIfInBounds_toArray, List.set_cons_zero, List.set_cons_succ])
  have c0 := O4.at_ 1 _ rfl
  have f0 := O4.free 1
  have H5 := O4.set 1 (.string x)
  have H6 : DHeld g r n s (w4.setCell ⟨g, 1, none⟩ (.string x)) := ⟨⟨_, _, H5⟩, hHeld.2.own.set_other g 1 _ (Ne.symm hgr)⟩
  have HW := Lib.hid H5
  have HX := Lib.hid (dgrown_tr (dgrown_below L5.out (some g)) (dgrown_set w4 g 1 (.string x)))
  clear H5 O4
  refine wpAnyH_ready (rs := [7]) (by kernel_rfl) (by simp) (AllReadyH.cons rfl (fun K hK => ?_) AllReadyH.nil)
  clear hHeld
  rw [if_pos (by kernel_rfl)]
  go_simp
  refine hK.out _ _ H6 (fun hHeld => ?_)
  clear hK K hHeld H6
  refine wpAnyH_done (by kernel_rfl) ?_ _
  go_wp2
  go_ret
  exact ⟨rfl, HW.out, HX.out⟩
end Go.Proofs.Ytimdemidnleiiaa
