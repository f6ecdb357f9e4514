/- Layer 19: what is recovered; a stable record parsed, an item parsed: the closures. -/
import Derived.Test.YtblefbjmjhgkkaaZLgKits
import Derived.Test.YtblefbjmjhgkkaaZOnce
import Derived.Tactics2
import Derived.Defers
import Derived.Recover
set_option linter.unusedVariables false
set_option maxRecDepth 100000
set_option linter.unusedSimpArgs false
namespace Go.Proofs.Ytblefbjmjhgkkaa
open Go.RowKit Go.Sort

theorem assert_errno (w : World) (c : Int) : (Instr.typeAssert (.iface 34 (.int .i64 c)) 20 34 true).run Try.prog w = .ok (.tuple #[.int .i64 c, .bool true]) w := by kernel_rfl
theorem errno_any (c : Int) (w : World) : Calls Try.prog 44 #[.iface 34 (.int .i64 c)] w fun e w' => e = .returned (.int .i64 c) ∧ w = w' := by
  have ha := fun W => assert_errno W c
  go_enter Try.func44, Try.ntmps44
  go_wp2
  go_ret
  exact ⟨rfl, rfl⟩
theorem neq_iface (w : World) (c : Int) : (binOp .neq 20 (.iface 34 (.int .i64 c)) .nilIface).run Try.prog w = .ok (.bool true) w := by kernel_rfl
theorem neq_nil (w : World) : (binOp .neq 20 .nilIface .nilIface).run Try.prog w = .ok (.bool false) w := by kernel_rfl

set_option maxHeartbeats 1000000 in
theorem acatchS (g : Nat) (c : Int) (w : World) (v1 : Value) (h1 : Own w g 34 #[v1]) :
    CallsD Try.prog 43 #[.pointer (some ⟨g, 0, none⟩)] (.panicking ({ v := .iface 34 (.int .i64 c), recovered := false } :: [])) w fun e u' w' =>
      e = .returned (.tuple #[]) ∧ u' = .panicking ({ v := .iface 34 (.int .i64 c), recovered := true } :: []) ∧ w' = w.setCell ⟨g, 0, none⟩ (.int .i64 c) := by
  have hn := fun W => neq_iface W c
  have c1 : w.cell? ⟨g, 0, none⟩ = some v1 := h1.at_ 0 _ rfl
  have f1 := h1.free 0
  refine callsD_of_wpS Try.func43 rfl fun c₀ cs hu => ?_
  apply wpS_seq
  apply wpS_region
  simp [wpOpsS, go_sem, recoverD, hu, Try.ntmps43, Exit.thenS]
  refine wpS_of_wp ?_
  rw [show (#[Value.pointer (some ⟨g, 0, none⟩)] ++ ((Array.replicate 6 undef).setIfInBounds 1 (Value.iface 34 (.int .i64 c))).setIfInBounds 0 (Value.iface 34 (.int .i64 c))) = #[Value.pointer (some ⟨g, 0, none⟩), Value.iface 34 (.int .i64 c), Value.iface 34 (.int .i64 c), undef, undef, undef, undef] from rfl]
  go_wp2_with fail
  refine (errno_any c _).mono ?_
  rintro e w1 ⟨rfl, rfl⟩
  go_wp2
  simp [bodyPostS, results, Try.results43]
theorem aidleS (p0 : Addr) (w : World) :
    CallsD Try.prog 43 #[.pointer (some p0)] .returning w fun e u' w' => e = .returned (.tuple #[]) ∧ u' = .returning ∧ w = w' := by
  have hn := neq_nil
  refine callsD_of_wpS Try.func43 rfl fun c₀ cs hu => ?_
  apply wpS_seq
  apply wpS_region
  simp [wpOpsS, go_sem, recoverD, hu, Try.ntmps43, Exit.thenS]
  refine wpS_of_wp ?_
  go_wp2
  cases c₀
  simp_all [bodyPostS, results, Try.results43]

set_option maxHeartbeats 1000000 in
theorem acatchI (g : Nat) (c : Int) (w : World) (v1 : Value) (h1 : Own w g 34 #[v1]) :
    CallsD Try.prog 50 #[.pointer (some ⟨g, 0, none⟩)] (.panicking ({ v := .iface 34 (.int .i64 c), recovered := false } :: [])) w fun e u' w' =>
      e = .returned (.tuple #[]) ∧ u' = .panicking ({ v := .iface 34 (.int .i64 c), recovered := true } :: []) ∧ w' = w.setCell ⟨g, 0, none⟩ (.int .i64 c) := by
  have hn := fun W => neq_iface W c
  have c1 : w.cell? ⟨g, 0, none⟩ = some v1 := h1.at_ 0 _ rfl
  have f1 := h1.free 0
  refine callsD_of_wpS Try.func50 rfl fun c₀ cs hu => ?_
  apply wpS_seq
  apply wpS_region
  simp [wpOpsS, go_sem, recoverD, hu, Try.ntmps50, Exit.thenS]
  refine wpS_of_wp ?_
  rw [show (#[Value.pointer (some ⟨g, 0, none⟩)] ++ ((Array.replicate 6 undef).setIfInBounds 1 (Value.iface 34 (.int .i64 c))).setIfInBounds 0 (Value.iface 34 (.int .i64 c))) = #[Value.pointer (some ⟨g, 0, none⟩), Value.iface 34 (.int .i64 c), Value.iface 34 (.int .i64 c), undef, undef, undef, undef] from rfl]
  go_wp2_with fail
  refine (errno_any c _).mono ?_
  rintro e w1 ⟨rfl, rfl⟩
  go_wp2
  simp [bodyPostS, results, Try.results50]
theorem aidleI (p0 : Addr) (w : World) :
    CallsD Try.prog 50 #[.pointer (some p0)] .returning w fun e u' w' => e = .returned (.tuple #[]) ∧ u' = .returning ∧ w = w' := by
  have hn := neq_nil
  refine callsD_of_wpS Try.func50 rfl fun c₀ cs hu => ?_
  apply wpS_seq
  apply wpS_region
  simp [wpOpsS, go_sem, recoverD, hu, Try.ntmps50, Exit.thenS]
  refine wpS_of_wp ?_
  go_wp2
  cases c₀
  simp_all [bodyPostS, results, Try.results50]

set_option maxHeartbeats 1000000 in
theorem acatchT (g : Nat) (c : Int) (w : World) (v1 : Value) (h1 : Own w g 34 #[v1]) :
    CallsD Try.prog 55 #[.pointer (some ⟨g, 0, none⟩)] (.panicking ({ v := .iface 34 (.int .i64 c), recovered := false } :: [])) w fun e u' w' =>
      e = .returned (.tuple #[]) ∧ u' = .panicking ({ v := .iface 34 (.int .i64 c), recovered := true } :: []) ∧ w' = w.setCell ⟨g, 0, none⟩ (.int .i64 c) := by
  have hn := fun W => neq_iface W c
  have c1 : w.cell? ⟨g, 0, none⟩ = some v1 := h1.at_ 0 _ rfl
  have f1 := h1.free 0
  refine callsD_of_wpS Try.func55 rfl fun c₀ cs hu => ?_
  apply wpS_seq
  apply wpS_region
  simp [wpOpsS, go_sem, recoverD, hu, Try.ntmps55, Exit.thenS]
  refine wpS_of_wp ?_
  rw [show (#[Value.pointer (some ⟨g, 0, none⟩)] ++ ((Array.replicate 6 undef).setIfInBounds 1 (Value.iface 34 (.int .i64 c))).setIfInBounds 0 (Value.iface 34 (.int .i64 c))) = #[Value.pointer (some ⟨g, 0, none⟩), Value.iface 34 (.int .i64 c), Value.iface 34 (.int .i64 c), undef, undef, undef, undef] from rfl]
  go_wp2_with fail
  refine (errno_any c _).mono ?_
  rintro e w1 ⟨rfl, rfl⟩
  go_wp2
  simp [bodyPostS, results, Try.results55]
theorem aidleT (p0 : Addr) (w : World) :
    CallsD Try.prog 55 #[.pointer (some p0)] .returning w fun e u' w' => e = .returned (.tuple #[]) ∧ u' = .returning ∧ w = w' := by
  have hn := neq_nil
  refine callsD_of_wpS Try.func55 rfl fun c₀ cs hu => ?_
  apply wpS_seq
  apply wpS_region
  simp [wpOpsS, go_sem, recoverD, hu, Try.ntmps55, Exit.thenS]
  refine wpS_of_wp ?_
  go_wp2
  cases c₀
  simp_all [bodyPostS, results, Try.results55]
end Go.Proofs.Ytblefbjmjhgkkaa

/- Layer 19: a stable record parsed, an item parsed: the closures that give up by panic. -/
set_option linter.unusedVariables false
set_option maxRecDepth 100000
set_option linter.unusedSimpArgs false
namespace Go.Proofs.Ytblefbjmjhgkkaa
open Go.RowKit Go.Sort

theorem getN_err_ne {n : Nat} {l : List UInt8} {x : Nat} (h : getN n l = .error x) : x ≠ 0 := by
  unfold getN at h; split at h
  · cases h; decide
  · cases h
/-- No error's number is nought. -/
def NoNought {α : Type} (g : List UInt8 → Got α) : Prop := ∀ l x, g l = .error x → x ≠ 0
theorem NoNought.and {α β : Type} {g : List UInt8 → Got α} {f : α → List UInt8 → Got β} (hg : NoNought g) (hf : ∀ a, NoNought (f a)) : NoNought fun l => andG (g l) f := by
  intro l x h
  simp only at h
  cases e : g l with
  | error y => rw [e, andG_err] at h; cases h; exact hg l _ e
  | ok p => obtain ⟨a, r⟩ := p; rw [e, andG_ok] at h; exact hf a r x h
theorem NoNought.bad {β : Type} {c : Nat} (hc : c ≠ 0) {is : Prop} [Decidable is] {f : List UInt8 → Got β} (hf : NoNought f) : NoNought fun l => badG c is (f l) := by
  intro l x h
  simp only [badG] at h
  split at h
  · cases h; exact hc
  · exact hf l x h
theorem NoNought.ok {α : Type} (v : α) : NoNought fun r => .ok (v, r) := fun l x h => by cases h
theorem nn_N (n : Nat) : NoNought (getN n) := fun l x h => getN_err_ne h
theorem nn_P : NoNought getP := (nn_N 1).and fun p => .bad (by decide) (.ok _)
theorem nn_V19 : NoNought getVw := (nn_N 8).and fun n => (nn_N 8).and fun e => nn_P.and fun p => (nn_N 8).and fun m => .ok _
theorem nn_Vs : ∀ n, NoNought (getVws n)
  | 0 => .ok _
  | n + 1 => nn_V19.and fun v => (nn_Vs n).and fun vs => .ok _
theorem nn_R : NoNought getRec := nn_V19.and fun v => (nn_N 1).and fun n => .bad (by decide) ((nn_Vs n).and fun vs => .ok _)
theorem nn_St : NoNought getSt := (nn_N 8).and fun e => (nn_N 4).and fun i => nn_R.and fun x => .ok _
theorem nn_K (m : Nat) : NoNought (getK m) := (nn_N 1).and fun k => .bad (by decide) (.ok _)
theorem nn_It (k : Nat) : NoNought (getIt k) := by
  intro l x h
  unfold getIt at h
  split at h
  · cases h
  · split at h
    · exact (NoNought.and (nn_N 4) fun i => (nn_N 8).and fun h => (nn_N 1).and fun f => .bad (by decide) (nn_R.and fun x => .ok _)) l x h
    · split at h
      · exact (NoNought.and nn_V19 fun v => .ok _) l x h
      · exact (NoNought.and (nn_N 8) fun n => (nn_N 2).and fun i => (nn_N 2).and fun t => (fun l x h => by cases h)) l x h
/-- A stable record, by its first byte and the rest. -/
theorem getS_k (l : List UInt8) : getS l = andG (getK 1 l) fun _ r => getSt r := by
  unfold getS getK getSt
  cases getN 1 l with
  | error e => simp only [andG_err]
  | ok x =>
    obtain ⟨k, r⟩ := x
    simp only [andG_ok, badG]
    by_cases h : k = 1
    · subst h; rfl
    · rw [if_pos h, if_pos (show k < 1 ∨ 1 < k by omega)]; rfl
theorem parseI_k (l : List UInt8) : parseI l = match getK 4 l with
    | .error e => .error e
    | .ok (k, r) => if 1024 < l.length then .error 3 else endG (getIt k r) := by
  unfold parseI getK
  cases getN 1 l with
  | error e => simp only [andG_err]
  | ok x =>
    obtain ⟨k, r⟩ := x
    simp only [andG_ok, badG]
    by_cases h : k < 1 ∨ 4 < k
    · rw [if_pos h, if_pos h]
    · rw [if_neg h, if_neg h]
      simp only [getBody_it]
/-- What a closure that parses does. -/
def CP {α : Type} (G : Except Nat α) (D : World → α → Value → Prop) (w : World) (e : Ending) (w' : World) : Prop :=
  Below w.heap.size w w' ∧ ((∃ v val, G = .ok v ∧ e = .returned val ∧ D w' v val) ∨ (∃ c, c ≠ 0 ∧ G = .error c ∧ e = .panicked (pan c)))
/-- Amid it: the result's block, the reader, its copy. -/
structure PcSt (w W : World) (s : ByteArray) (a : Nat) (zt : TypeId) (z : Array Value) : Prop where
  res : Own W w.heap.size zt z
  rd : Rd W (w.heap.size + 1) s a
  box : Own W (w.heap.size + 2) 67 #[.pointer (some ⟨w.heap.size + 1, 0, none⟩)]
  below : Below w.heap.size w W
theorem below_of_by {w w' : World} {b B : Nat} (h : w.grownBy w' (some b)) (hB : B ≤ b) (hz : B ≤ w.heap.size) : Below B w w' :=
  ⟨h.os, h.tape, h.output, h.size, fun k hk => h.block k (by omega) (by intro e; injection e with e; omega)⟩
theorem PcSt.go {w W W' : World} {s : ByteArray} {a a' : Nat} {zt : TypeId} {z : Array Value} (h : PcSt w W s a zt z) (hr : Rd W' (w.heap.size + 1) s a') (hg : W.grownBy W' (some (w.heap.size + 1))) : PcSt w W' s a' zt z :=
  ⟨h.res.grown hg (by intro e; injection e with e; omega), hr, h.box.grown hg (by intro e; injection e with e; omega), h.below.trans (below_of_by hg (by omega) h.below.size)⟩
theorem PcSt.later {w W W' : World} {s : ByteArray} {a : Nat} {zt : TypeId} {z : Array Value} (h : PcSt w W s a zt z) (hb : Below W.heap.size W W') : PcSt w W' s a zt z :=
  ⟨h.res.below hb h.res.lt, h.rd.after hb, h.box.below hb h.box.lt, h.below.trans (hb.mono h.below.size)⟩
theorem PcSt.new (w : World) (s : ByteArray) (hs : s.size ≤ 1099511627776) (zt : TypeId) (z : Array Value) {w2 : World} (hw2 : (w.alloc (.cells z zt)).alloc (.cells #[.string s, .int .i64 0] 98) = w2) :
    PcSt w (w2.alloc (.cells #[.pointer (some ⟨w.heap.size + 1, 0, none⟩)] 67)) s 0 zt z := by
  obtain ⟨A1, h1⟩ : ∃ A1, A1 = w.alloc (.cells z zt) := ⟨_, rfl⟩
  have o1 : Own A1 w.heap.size zt z := by rw [h1]; exact Own.new _ _ _
  have z1 : A1.heap.size = w.heap.size + 1 := by rw [h1]; simp
  have g1 : Grw w A1 := by rw [h1]; exact (Grw.refl _).alloc _
  rw [← h1] at hw2
  have r2 : Rd w2 A1.heap.size s 0 := by rw [← hw2]; exact Rd.new A1 _ (by omega)
  have z2 : w2.heap.size = w.heap.size + 2 := by rw [← hw2]; simp [z1]
  have g2 : Grw A1 w2 := by rw [← hw2]; exact (Grw.refl _).alloc _
  rw [z1] at r2
  have g3 : Grw w2 (w2.alloc (.cells #[.pointer (some ⟨w.heap.size + 1, 0, none⟩)] 67)) := (Grw.refl _).alloc _
  exact ⟨(o1.below g2.below o1.lt).below g3.below (by omega), r2.after g3.below, by rw [← z2]; exact Own.new _ _ _, ((g1.trans g2).trans g3).below⟩
theorem stable_size : (Try.prog.info? 33).map (·.size) = some 7 := by kernel_rfl
theorem encS_one (x : Stb) (a : Option Addr) (k c : Nat) : (encS x a k c).toArray.all (·.oneCell') = true := by simp [encS, Value.oneCell']
theorem store_stable {ops : Array Oper} {rest : List Oper} {o : Oper} {A : Act} {w : World} {Q : Exit → Act → World → Prop} (hgd : o.guard = none) (x y : Operand) (ho : o.op = .store 33 x y)
    (g : Nat) {p : Stb} {a : Option Addr} {k c : Nat} (hx : A.eval x = .pointer (some ⟨g, 0, none⟩)) (hy : A.eval y = .agg (encS p a k c).toArray)
    {p0 : Stb} {a0 : Option Addr} {k0 c0 : Nat} (hg : Own w g 33 (encS p0 a0 k0 c0).toArray)
    (h : wpList Try.prog ops Q rest (A.put o.dst undef) (w.setRow g (encS p a k c).toArray)) : wpList Try.prog ops Q (o :: rest) A w :=
  wpList_store_row hgd 33 x y ho g _ hx hy 33 _ hg stable_size rfl (encS_one _ _ _ _) h
theorem load_stable {ops : Array Oper} {rest : List Oper} {o : Oper} {A : Act} {w : World} {Q : Exit → Act → World → Prop} (hgd : o.guard = none) (x : Operand) (ho : o.op = .load 33 x)
    (g : Nat) (hx : A.eval x = .pointer (some ⟨g, 0, none⟩)) {p : Stb} {a : Option Addr} {k c : Nat} (hg : Own w g 33 (encS p a k c).toArray)
    (h : wpList Try.prog ops Q rest (A.put o.dst (.agg (encS p a k c).toArray)) w) : wpList Try.prog ops Q (o :: rest) A w :=
  wpList_load_row hgd 33 x ho g hx 33 _ _ _ hg Try.underlying33 rfl stable_size h
theorem results_stable {fn : Func} {p : Tmp} (h : fn.results = #[.cell p 33]) (tmps : Array Value) (w : World) (g : Nat) {q : Stb} {a : Option Addr} {k c : Nat}
    (hp : tmps.getD p undef = .pointer (some ⟨g, 0, none⟩)) (hg : Own w g 33 (encS q a k c).toArray) :
    (results fn tmps).run Try.prog w = .ok (.agg (encS q a k c).toArray) w :=
  results_cell_row h tmps w g 33 _ (0, 0) _ hp hg Try.underlying33 rfl stable_size
def zeroS : Stb := ⟨0, 0, ⟨⟨0, 0, 0, 0⟩, []⟩⟩
theorem zeroS_is : (encS zeroS none 0 0).toArray = #[.int .u64 0, .int .u32 0, .int .u64 0, .int .u64 0, .int .i64 0, .int .u64 0, .slice none 0 0] := rfl
theorem ritem (w : World) (b : Nat) (s : ByteArray) (a k : Nat) (h : Rd w b s a) (hs : s.size ≤ 1099511627776) (hk : 1 ≤ k ∧ k ≤ 4) :
    Calls Try.prog 32 #[.agg #[.pointer (some ⟨b, 0, none⟩)], .int .i64 (k : Int)] w (RP (getIt k) (ItD w.heap.size) w b s a) := by
  obtain rfl | rfl | rfl | rfl : k = 1 ∨ k = 2 ∨ k = 3 ∨ k = 4 := by omega
  · exact ritem_1 w b s a h hs
  · exact ritem_2 w b s a h hs
  · exact ritem_3 w b s a h hs
  · exact ritem_4 w b s a h hs
theorem restB_zero (s : ByteArray) : restB s 0 = s.data.toList := by unfold restB; rw [List.drop_zero]
theorem endG_nil {α : Type} (v : α) {l : List UInt8} (h : l = []) : endG (.ok (v, l)) = (.ok v : Except Nat α) := by rw [h]; rfl
theorem endG_left {α : Type} (v : α) {l : List UInt8} (h : l ≠ []) : endG (.ok (v, l)) = (.error 4 : Except Nat α) := by
  cases l with
  | nil => exact absurd rfl h
  | cons x xs => rfl

set_option maxHeartbeats 4000000 in
theorem parse1S (s : ByteArray) (hs : s.size ≤ 1099511627776) (g : Nat) (w : World) (hc : w.cell? ⟨g, 0, none⟩ = some (.string s)) :
    Calls Try.prog 21 #[.pointer (some ⟨g, 0, none⟩)] w (CP (parseS s.data.toList) (OwnS w.heap.size) w) := by
  have hgl : g < w.heap.size := World.block_lt_of_cell? _ _ hc
  have hc1 : (w.alloc (.cells #[.int .u64 0, .int .u32 0, .int .u64 0, .int .u64 0, .int .i64 0, .int .u64 0, .slice none 0 0] 33)).cell? ⟨g, 0, none⟩ = some (.string s) := cell_later ((Grw.refl w).alloc _).below hc
  have HPS := Lib.hid (show parseS s.data.toList = endG (andG (getK 1 (restB s 0)) fun _ r => getSt r) by unfold parseS; rw [getS_k, restB_zero])
  clear hc
  go_enter Try.func21, Try.ntmps21
  go_wp2_with fail
  refine (new_any _ _).mono ?_
  rintro e w2 ⟨rfl, hw2⟩
  have P0 := PcSt.new w s hs 33 #[.int .u64 0, .int .u32 0, .int .u64 0, .int .u64 0, .int .i64 0, .int .u64 0, .slice none 0 0] hw2
  have z1 : (w.alloc (.cells #[.int .u64 0, .int .u32 0, .int .u64 0, .int .u64 0, .int .i64 0, .int .u64 0, .slice none 0 0] 33)).heap.size = w.heap.size + 1 := by simp
  have z2 : w2.heap.size = w.heap.size + 2 := by rw [← hw2]; simp
  clear hw2 hc1
  try simp only [z1]
  go_upto_region 2 with fail
  try simp only [z2]
  generalize w2.alloc (.cells #[.pointer (some ⟨w.heap.size + 1, 0, none⟩)] 67) = w3 at *
  clear z1 z2
  have b3 : w3.cell? ⟨w.heap.size + 2, 0, none⟩ = some (.pointer (some ⟨w.heap.size + 1, 0, none⟩)) := P0.box.at_ 0 _ rfl
  go_wp2_with fail
  refine (rkind _ _ s 0 1 P0.rd).mono ?_
  rintro e w4 (⟨v, _, a1, hG, rfl, rfl, hr, hg⟩ | ⟨q, hG, rfl, hg⟩)
  rotate_left
  · exact ⟨rfl, P0.below.trans (below_of_by hg (by omega) P0.below.size), .inr ⟨q, nn_K _ _ _ hG, by rw [HPS.out, hG, andG_err]; rfl, rfl⟩⟩
  have P4 := P0.go hr hg
  have G4 := Lib.hid hG
  have b4 : w4.cell? ⟨w.heap.size + 2, 0, none⟩ = some (.pointer (some ⟨w.heap.size + 1, 0, none⟩)) := P4.box.at_ 0 _ rfl
  clear hG hr hg P0 b3
  go_wp2_with fail
  refine (rstable _ _ s a1 P4.rd).mono ?_
  rintro e w5 (⟨x, _, a2, hG, rfl, ⟨pa, pk, pc, rfl, ho, hol, hok⟩, hr, hg⟩ | ⟨q, hG, rfl, hg⟩)
  rotate_left
  · exact ⟨rfl, P4.below.trans (below_of_by hg (by omega) P4.below.size), .inr ⟨q, nn_St _ _ hG, by rw [HPS.out, G4.out, andG_ok, hG]; rfl, rfl⟩⟩
  have P5 := P4.go hr hg
  have G5 := Lib.hid hG
  have hz4 : w.heap.size + 3 ≤ w4.heap.size := P4.box.lt
  have hz5 : w.heap.size + 3 ≤ w5.heap.size := P5.box.lt
  have HO := Lib.hid (own_base ho hz4)
  have Z5 : Own (w5.alloc (.cells #[.int .u64 0, .int .u32 0, .int .u64 0, .int .u64 0, .int .i64 0, .int .u64 0, .slice none 0 0] 33)) w5.heap.size 33 (encS zeroS none 0 0).toArray := Own.new _ _ _
  have hGr := (Grw.refl w5).alloc (.cells #[.int .u64 0, .int .u32 0, .int .u64 0, .int .u64 0, .int .i64 0, .int .u64 0, .slice none 0 0] 33)
  have P6 := P5.later hGr.below
  have O6 := own_grw HO.out hGr
  have HOL := Lib.hid hol
  have HOK := Lib.hid hok
  clear hG hr hg ho hol hok P4 P5 b4 HO hGr
  go_upto_region 4 with (refine store_stable rfl (.tmp 3) (.tmp 10) rfl w5.heap.size rfl rfl Z5 ?_)
  have R6 := Z5.row (encS x pa pk pc).toArray
  have P7 : PcSt w ((w5.alloc (.cells #[.int .u64 0, .int .u32 0, .int .u64 0, .int .u64 0, .int .i64 0, .int .u64 0, .slice none 0 0] 33)).setRow w5.heap.size (encS x pa pk pc).toArray) s a2 33 #[.int .u64 0, .int .u32 0, .int .u64 0, .int .u64 0, .int .i64 0, .int .u64 0, .slice none 0 0] :=
    ⟨P6.res.row_other _ (by omega), P6.rd.row (by omega) _, P6.box.row_other _ (by omega), belowRow18 P6.below _ (by omega) _⟩
  have O7 := Lib.hid (show ((w5.alloc (.cells #[.int .u64 0, .int .u32 0, .int .u64 0, .int .u64 0, .int .i64 0, .int .u64 0, .slice none 0 0] 33)).setRow w5.heap.size (encS x pa pk pc).toArray).ownsRow (w.heap.size + 3) 28 4 (.slice pa pk pc) pk (flat encV x.r.pend) from by
    refine ⟨O6.1, ?_⟩
    rcases O6.2 with h1 | ⟨g', cap, cur, h1, h2, h3, h4⟩
    · exact .inl h1
    · refine .inr ⟨g', cap, cur, h1, h2, (setRow_other _ _ g' _ ?_).trans h3, h4⟩
      intro e
      subst e
      have := Z5.is.symm.trans h3
      injection this with e1
      injection e1 with _ e2 _
      exact absurd e2 (by decide))
  clear Z5 P6 O6
  generalize (w5.alloc (.cells #[.int .u64 0, .int .u32 0, .int .u64 0, .int .u64 0, .int .i64 0, .int .u64 0, .slice none 0 0] 33)).setRow w5.heap.size (encS x pa pk pc).toArray = w7 at *
  generalize w5.heap.size = G at *
  have b7 : w7.cell? ⟨w.heap.size + 2, 0, none⟩ = some (.pointer (some ⟨w.heap.size + 1, 0, none⟩)) := P7.box.at_ 0 _ rfl
  go_wp2_with fail
  refine (rend _ _ s a2 P7.rd).mono ?_
  rintro e w8 ⟨hg, ⟨hn, rfl⟩ | ⟨hn, rfl⟩⟩
  rotate_left
  · exact ⟨rfl, P7.below.trans (below_of_by hg (by omega) P7.below.size), .inr ⟨4, by decide, by rw [HPS.out, G4.out, andG_ok, G5.out, endG_left _ hn], rfl⟩⟩
  have R8 := R6.grown hg (by intro e; injection e with e; omega)
  have S8 : Own w8 w.heap.size 33 (encS zeroS none 0 0).toArray := P7.res.grown hg (by intro e; injection e with e; omega)
  have B8 := Lib.hid (P7.below.trans (below_of_by hg (by omega) P7.below.size))
  have O8 := Lib.hid (own_by O7.out hg (by omega))
  have HE := Lib.hid (show parseS s.data.toList = .ok x by rw [HPS.out, G4.out, andG_ok, G5.out, endG_nil _ hn])
  clear hg hn P7 R6 O7 b7
  go_wp2_with (first | (refine load_stable rfl (.tmp 3) rfl G rfl R8 ?_) | (refine store_stable rfl (.tmp 1) (.tmp 13) rfl w.heap.size rfl rfl S8 ?_))
  (try simp only [Exit.inBlock, Exit.then])
  refine bodyPost_ret (results_stable rfl _ _ w.heap.size rfl (S8.row _)) rfl ?_
  exact ⟨belowRow18 B8.out _ (Nat.le_refl _) _, .inl ⟨x, _, HE.out, rfl, pa, pk, pc, rfl, own_base (own_setRow O8.out (by omega) _) (by omega), HOL.out, HOK.out⟩⟩
end Go.Proofs.Ytblefbjmjhgkkaa

/- Layer 19: an item parsed: the closure; what answer makes of both; Parse and ParseItem. -/
set_option linter.unusedVariables false
set_option maxRecDepth 100000
set_option linter.unusedSimpArgs false
namespace Go.Proofs.Ytblefbjmjhgkkaa
open Go.RowKit Go.Sort

theorem getK_may {m : Nat} {l : List UInt8} {v : Nat} {r : List UInt8} (h : getK m l = .ok (v, r)) : 1 ≤ v ∧ v ≤ m := by
  unfold getK at h
  simp only [andG_iff, badG_iff, Except.ok.injEq, Prod.mk.injEq] at h
  obtain ⟨k, r', _, h2, rfl, _⟩ := h
  omega
set_option maxHeartbeats 4000000 in
theorem parse1I (s : ByteArray) (hs : s.size ≤ 1099511627776) (g : Nat) (w : World) (hc : w.cell? ⟨g, 0, none⟩ = some (.string s)) :
    Calls Try.prog 30 #[.pointer (some ⟨g, 0, none⟩)] w (CP (parseI s.data.toList) (ItD w.heap.size) w) := by
  have hgl : g < w.heap.size := World.block_lt_of_cell? _ _ hc
  have hc1 : (w.alloc (.cells #[.int .i64 0, .string { data := #[] }, .int .u32 0, .int .u64 0, .bool false, .bool false, .int .u64 0, .int .u64 0, .int .i64 0, .int .u64 0, .slice none 0 0, .int .u64 0, .int .u64 0, .int .i64 0, .int .u64 0, .int .u64 0, .int .i64 0, .int .i64 0] 43)).cell? ⟨g, 0, none⟩ = some (.string s) := cell_later ((Grw.refl w).alloc _).below hc
  have HPS := Lib.hid (show parseI s.data.toList = match getK 4 (restB s 0) with
    | .error e => .error e
    | .ok (k, r) => if 1024 < s.size then .error 3 else endG (getIt k r) by rw [parseI_k, restB_zero]; rfl)
  have HC0 := Lib.hid hc
  clear hc
  go_enter Try.func30, Try.ntmps30
  go_wp2_with fail
  refine (new_any _ _).mono ?_
  rintro e w2 ⟨rfl, hw2⟩
  have P0 := PcSt.new w s hs 43 #[.int .i64 0, .string { data := #[] }, .int .u32 0, .int .u64 0, .bool false, .bool false, .int .u64 0, .int .u64 0, .int .i64 0, .int .u64 0, .slice none 0 0, .int .u64 0, .int .u64 0, .int .i64 0, .int .u64 0, .int .u64 0, .int .i64 0, .int .i64 0] hw2
  have z1 : (w.alloc (.cells #[.int .i64 0, .string { data := #[] }, .int .u32 0, .int .u64 0, .bool false, .bool false, .int .u64 0, .int .u64 0, .int .i64 0, .int .u64 0, .slice none 0 0, .int .u64 0, .int .u64 0, .int .i64 0, .int .u64 0, .int .u64 0, .int .i64 0, .int .i64 0] 43)).heap.size = w.heap.size + 1 := by simp
  have z2 : w2.heap.size = w.heap.size + 2 := by rw [← hw2]; simp
  clear hw2 hc1
  try simp only [z1]
  go_upto_region 2 with fail
  try simp only [z2]
  generalize w2.alloc (.cells #[.pointer (some ⟨w.heap.size + 1, 0, none⟩)] 67) = w3 at *
  clear z1 z2
  have b3 : w3.cell? ⟨w.heap.size + 2, 0, none⟩ = some (.pointer (some ⟨w.heap.size + 1, 0, none⟩)) := P0.box.at_ 0 _ rfl
  go_wp2_with fail
  refine (rkind _ _ s 0 4 P0.rd).mono ?_
  rintro e w4 (⟨v, _, a1, hG, rfl, rfl, hr, hg⟩ | ⟨q, hG, rfl, hg⟩)
  rotate_left
  · exact ⟨rfl, P0.below.trans (below_of_by hg (by omega) P0.below.size), .inr ⟨q, nn_K _ _ _ hG, by rw [HPS.out, hG], rfl⟩⟩
  have P4 := P0.go hr hg
  have hv := getK_may hG
  have G4 := Lib.hid hG
  have b4 : w4.cell? ⟨w.heap.size + 2, 0, none⟩ = some (.pointer (some ⟨w.heap.size + 1, 0, none⟩)) := P4.box.at_ 0 _ rfl
  have c4 : w4.cell? ⟨g, 0, none⟩ = some (.string s) := (P4.below.cell (p := ⟨g, 0, none⟩) hgl).trans HC0.out
  clear hG hr hg P0 b3
  by_cases hl : 1024 < s.size
  · go_wp2_with fail
    refine (within_no (s.size : Int) 0 1024 3 _ (.inr (by omega))).mono ?_
    rintro e w5 ⟨rfl, rfl⟩
    exact ⟨rfl, P4.below, .inr ⟨3, by decide, by rw [HPS.out, G4.out]; exact if_pos hl, rfl⟩⟩
  go_wp2_with fail
  refine (within_yes (s.size : Int) 0 1024 3 _ (by omega) (by omega)).mono ?_
  rintro e w5 ⟨rfl, rfl⟩
  have HPS2 := Lib.hid (show parseI s.data.toList = endG (getIt v (restB s a1)) by rw [HPS.out, G4.out]; exact if_neg hl)
  clear hl c4
  go_wp2_with fail
  refine (ritem _ _ s a1 v P4.rd hs hv).mono ?_
  rintro e w5 (⟨x, _, a2, hG, rfl, ⟨T, pa, pk, pc, rfl, hO⟩, hr, hg⟩ | ⟨q, hG, rfl, hg⟩)
  rotate_left
  · exact ⟨rfl, P4.below.trans (below_of_by hg (by omega) P4.below.size), .inr ⟨q, nn_It _ _ _ hG, by rw [HPS2.out, hG]; rfl, rfl⟩⟩
  have P5 := P4.go hr hg
  have G5 := Lib.hid hG
  have hz4 : w.heap.size + 3 ≤ w4.heap.size := P4.box.lt
  have hz5 : w.heap.size + 3 ≤ w5.heap.size := P5.box.lt
  have HO := Lib.hid (hO.mono hz4)
  have Z5 : Own (w5.alloc (.cells #[.int .i64 0, .string { data := #[] }, .int .u32 0, .int .u64 0, .bool false, .bool false, .int .u64 0, .int .u64 0, .int .i64 0, .int .u64 0, .slice none 0 0, .int .u64 0, .int .u64 0, .int .i64 0, .int .u64 0, .int .u64 0, .int .i64 0, .int .i64 0] 43)) w5.heap.size 43 (encI zeroI { data := #[] } none 0 0).toArray := Own.new _ _ _
  have hGr := (Grw.refl w5).alloc (.cells #[.int .i64 0, .string { data := #[] }, .int .u32 0, .int .u64 0, .bool false, .bool false, .int .u64 0, .int .u64 0, .int .i64 0, .int .u64 0, .slice none 0 0, .int .u64 0, .int .u64 0, .int .i64 0, .int .u64 0, .int .u64 0, .int .i64 0, .int .i64 0] 43)
  have P6 := P5.later hGr.below
  have O6 := own_grw HO.out.row hGr
  clear hG hr hg hO P4 P5 b4 hGr
  go_upto_region 5 with (refine store_item rfl (.tmp 4) (.tmp 15) rfl w5.heap.size rfl rfl Z5 ?_)
  have R6 := Z5.row (encI x T pa pk pc).toArray
  have P7 : PcSt w ((w5.alloc (.cells #[.int .i64 0, .string { data := #[] }, .int .u32 0, .int .u64 0, .bool false, .bool false, .int .u64 0, .int .u64 0, .int .i64 0, .int .u64 0, .slice none 0 0, .int .u64 0, .int .u64 0, .int .i64 0, .int .u64 0, .int .u64 0, .int .i64 0, .int .i64 0] 43)).setRow w5.heap.size (encI x T pa pk pc).toArray) s a2 43 #[.int .i64 0, .string { data := #[] }, .int .u32 0, .int .u64 0, .bool false, .bool false, .int .u64 0, .int .u64 0, .int .i64 0, .int .u64 0, .slice none 0 0, .int .u64 0, .int .u64 0, .int .i64 0, .int .u64 0, .int .u64 0, .int .i64 0, .int .i64 0] :=
    ⟨P6.res.row_other _ (by omega), P6.rd.row (by omega) _, P6.box.row_other _ (by omega), belowRow18 P6.below _ (by omega) _⟩
  have O7 := Lib.hid (show ((w5.alloc (.cells #[.int .i64 0, .string { data := #[] }, .int .u32 0, .int .u64 0, .bool false, .bool false, .int .u64 0, .int .u64 0, .int .i64 0, .int .u64 0, .slice none 0 0, .int .u64 0, .int .u64 0, .int .i64 0, .int .u64 0, .int .u64 0, .int .i64 0, .int .i64 0] 43)).setRow w5.heap.size (encI x T pa pk pc).toArray).ownsRow (w.heap.size + 3) 28 4 (.slice pa pk pc) pk (flat encV x.r.pend) from by
    refine ⟨O6.1, ?_⟩
    rcases O6.2 with h1 | ⟨g', cap, cur, h1, h2, h3, h4⟩
    · exact .inl h1
    · refine .inr ⟨g', cap, cur, h1, h2, (setRow_other _ _ g' _ ?_).trans h3, h4⟩
      intro e
      subst e
      have := Z5.is.symm.trans h3
      injection this with e1
      injection e1 with _ e2 _
      exact absurd e2 (by decide))
  clear Z5 P6 O6
  generalize (w5.alloc (.cells #[.int .i64 0, .string { data := #[] }, .int .u32 0, .int .u64 0, .bool false, .bool false, .int .u64 0, .int .u64 0, .int .i64 0, .int .u64 0, .slice none 0 0, .int .u64 0, .int .u64 0, .int .i64 0, .int .u64 0, .int .u64 0, .int .i64 0, .int .i64 0] 43)).setRow w5.heap.size (encI x T pa pk pc).toArray = w7 at *
  generalize w5.heap.size = G at *
  have b7 : w7.cell? ⟨w.heap.size + 2, 0, none⟩ = some (.pointer (some ⟨w.heap.size + 1, 0, none⟩)) := P7.box.at_ 0 _ rfl
  go_wp2_with fail
  refine (rend _ _ s a2 P7.rd).mono ?_
  rintro e w8 ⟨hg, ⟨hn, rfl⟩ | ⟨hn, rfl⟩⟩
  rotate_left
  · exact ⟨rfl, P7.below.trans (below_of_by hg (by omega) P7.below.size), .inr ⟨4, by decide, by rw [HPS2.out, G5.out, endG_left _ hn], rfl⟩⟩
  have R8 := R6.grown hg (by intro e; injection e with e; omega)
  have S8 : Own w8 w.heap.size 43 (encI zeroI { data := #[] } none 0 0).toArray := P7.res.grown hg (by intro e; injection e with e; omega)
  have B8 := Lib.hid (P7.below.trans (below_of_by hg (by omega) P7.below.size))
  have O8 := Lib.hid (own_by O7.out hg (by omega))
  have HE := Lib.hid (show parseI s.data.toList = .ok x by rw [HPS2.out, G5.out, endG_nil _ hn])
  clear hg hn P7 R6 O7 b7
  go_wp2_with (first | (refine load_item rfl (.tmp 4) rfl G rfl R8 ?_) | (refine store_item rfl (.tmp 1) (.tmp 18) rfl w.heap.size rfl rfl S8 ?_))
  (try simp only [Exit.inBlock, Exit.then])
  refine bodyPost_ret (results_item rfl _ _ w.heap.size rfl (S8.row _)) rfl ?_
  exact ⟨belowRow18 B8.out _ (Nat.le_refl _) _, .inl ⟨x, _, HE.out, rfl, T, pa, pk, pc, rfl, ⟨HO.out.text, own_base (own_setRow O8.out (by omega) _) (by omega), HO.out.len, HO.out.few⟩⟩⟩

/-- The two results' cells of answer. -/
theorem results_twoS {fn : Func} {p u : Tmp} (h : fn.results = #[.cell p 33, .cell u 34]) (tmps : Array Value) {W : World} {g g1 : Nat} {cs : Array Value} {c : Int}
    (hp : tmps.getD p undef = .pointer (some ⟨g, 0, none⟩)) (hu : tmps.getD u undef = .pointer (some ⟨g1, 0, none⟩)) (h0 : Own W g 33 cs) (h1 : Own W g1 34 #[.int .i64 c]) (hl : cs.size = 7) :
    (results fn tmps).run Try.prog W = .ok (.tuple #[.agg cs, .int .i64 c]) W := by
  have hl := run_loadVar_row (P := Try.prog) W g 33 33 cs (0, 0) _ h0 Try.underlying33 rfl (by rw [stable_size, hl])
  have hc : W.cell? ⟨g1, 0, none⟩ = some (.int .i64 c) := h1.at_ 0 _ rfl
  have hp' : tmps[p]?.getD undef = .pointer (some ⟨g, 0, none⟩) := by simpa using hp
  have hu' : tmps[u]?.getD undef = .pointer (some ⟨g1, 0, none⟩) := by simpa using hu
  simp [results, h, hp', hu', asAddr, hl, Result.andThen]
  simp [loadVar, go_sem, hc]
set_option maxHeartbeats 4000000 in
theorem answerS (s : ByteArray) (hs : s.size ≤ 1099511627776) (g : Nat) (w : World) (hc : w.cell? ⟨g, 0, none⟩ = some (.string s)) :
    Calls Try.prog 20 #[.func (.func 21) #[] #[.pointer (some ⟨g, 0, none⟩)]] w fun e w' => Below w.heap.size w w' ∧ ((∃ v val, parseS s.data.toList = .ok v ∧ e = .returned (.tuple #[val, .int .i64 0]) ∧ OwnS w.heap.size w' v val) ∨
      (∃ c, c ≠ 0 ∧ parseS s.data.toList = .error c ∧ e = .returned (.tuple #[.agg (encS zeroS none 0 0).toArray, .int .i64 (c : Int)]))) := by
  have hmf : ∀ (fn : Fn) (first cap : Array Value) (w : World), (Instr.makeFunc fn first cap).run Try.prog w = .ok (.func fn first cap) w := fun _ _ _ _ => rfl
  have z1 : (w.alloc (.cells #[.int .u64 0, .int .u32 0, .int .u64 0, .int .u64 0, .int .i64 0, .int .u64 0, .slice none 0 0] 33)).heap.size = w.heap.size + 1 := by simp
  have S1 : Own (w.alloc (.cells #[.int .u64 0, .int .u32 0, .int .u64 0, .int .u64 0, .int .i64 0, .int .u64 0, .slice none 0 0] 33)) w.heap.size 33 (encS zeroS none 0 0).toArray := Own.new _ _ _
  have G1 := (Grw.refl w).alloc (.cells #[.int .u64 0, .int .u32 0, .int .u64 0, .int .u64 0, .int .i64 0, .int .u64 0, .slice none 0 0] 33)
  have E2 := Own.new (w.alloc (.cells #[.int .u64 0, .int .u32 0, .int .u64 0, .int .u64 0, .int .i64 0, .int .u64 0, .slice none 0 0] 33)) 34 #[.int .i64 0]
  rw [z1] at E2
  have G2 := (Grw.refl (w.alloc (.cells #[.int .u64 0, .int .u32 0, .int .u64 0, .int .u64 0, .int .i64 0, .int .u64 0, .slice none 0 0] 33))).alloc (.cells #[.int .i64 0] 34)
  have S2 := S1.below G2.below S1.lt
  have B2 := (G1.trans G2).below
  have hc2 := cell_later B2 hc
  have z2 : ((w.alloc (.cells #[.int .u64 0, .int .u32 0, .int .u64 0, .int .u64 0, .int .i64 0, .int .u64 0, .slice none 0 0] 33)).alloc (.cells #[.int .i64 0] 34)).heap.size = w.heap.size + 2 := by simp
  have P := parse1S s hs g _ hc2
  clear S1 G1 G2 hc hc2 z1
  go_enter_defers Try.func20, Try.ntmps20
  go_wp2_with fail
  refine P.mono ?_
  rintro e w3 ⟨hb, ⟨x, _, hG, rfl, ⟨pa, pk, pc, rfl, ho, hol, hok⟩⟩ | ⟨c, hc0, hG, rfl⟩⟩
  rotate_left
  · have S3 := S2.below hb S2.lt
    have E3 := E2.below hb E2.lt
    have B3 := B2.trans (hb.mono B2.size)
    refine leaves_cons (f := 43) (args := #[.pointer (some ⟨w.heap.size + 1, 0, none⟩)]) (by simp) (by simp [go_sem]) ?_
    refine (acatchS (w.heap.size + 1) (c : Int) w3 _ E3).mono ?_
    rintro e u' w'' ⟨rfl, rfl, rfl⟩
    exact ⟨_, results_twoS rfl _ rfl rfl (S3.set_other _ _ _ (by omega)) (E3.set 0 _) rfl, B3.setCell (by simp) _, .inr ⟨c, hc0, hG, rfl⟩⟩
  have hz : w.heap.size + 2 ≤ w3.heap.size := by rw [← z2]; exact hb.size
  have S3 := S2.below hb S2.lt
  have E3 := E2.below hb E2.lt
  have B3 := B2.trans (hb.mono B2.size)
  rw [z2] at ho
  have E4 : Own (w3.setRow w.heap.size (encS x pa pk pc).toArray) (w.heap.size + 1) 34 #[.int .i64 0] := E3.row_other _ (by omega)
  have c1 : (w3.setRow w.heap.size (encS x pa pk pc).toArray).cell? ⟨w.heap.size + 1, 0, none⟩ = some (.int .i64 0) := E4.at_ 0 _ rfl
  have f1 : (w3.setRow w.heap.size (encS x pa pk pc).toArray).frozen? ⟨w.heap.size + 1, 0, none⟩ = false := E4.free 0
  have HO := Lib.hid ho
  have HG := Lib.hid hG
  clear P S2 E2 B2 z2 hb ho hG
  go_wp2_with (refine store_stable rfl (.tmp 2) (.tmp 6) rfl w.heap.size rfl rfl S3 ?_)
  refine leaves_cons (f := 43) (args := #[.pointer (some ⟨w.heap.size + 1, 0, none⟩)]) (by simp) (by simp [go_sem]) ?_
  refine (aidleS _ _).mono ?_
  rintro e u' w'' ⟨rfl, rfl, rfl⟩
  exact ⟨_, results_twoS rfl _ rfl rfl ((S3.row _).set_other _ _ _ (by omega)) (E4.set 0 _) rfl, (belowRow18 B3 _ (Nat.le_refl _) _).setCell (by simp) _, .inl ⟨x, _, HG.out, rfl, ⟨pa, pk, pc, rfl, own_base (own_set (own_setRow HO.out (by omega) _) (by omega) _ _) (by omega), hol, hok⟩⟩⟩
theorem results_ctS {fn : Func} {p u : Tmp} (h : fn.results = #[.cell p 33, .tmp u]) (tmps : Array Value) (w : World) (g : Nat) {x : Stb} {a : Option Addr} {k c : Nat}
    (hp : tmps.getD p undef = .pointer (some ⟨g, 0, none⟩)) (hg : Own w g 33 (encS x a k c).toArray) :
    (results fn tmps).run Try.prog w = .ok (.tuple #[.agg (encS x a k c).toArray, tmps.getD u undef]) w := by
  rw [results_cell_tmp h, hp]
  have hl := run_loadVar_row (P := Try.prog) w g 33 33 (encS x a k c).toArray (0, 0) _ hg Try.underlying33 rfl stable_size
  simp [asAddr, hl, Result.andThen]
set_option maxHeartbeats 4000000 in
theorem lparseS (s : ByteArray) (hs : s.size ≤ 1099511627776) (w : World) :
    Calls Try.prog 7 #[.string s] w fun e w' => Below w.heap.size w w' ∧ ((∃ v val, parseS s.data.toList = .ok v ∧ e = .returned (.tuple #[val, .int .i64 0]) ∧ OwnS w.heap.size w' v val) ∨
      (∃ c, c ≠ 0 ∧ parseS s.data.toList = .error c ∧ e = .returned (.tuple #[.agg (encS zeroS none 0 0).toArray, .int .i64 (c : Int)]))) := by
  have hmf : ∀ (fn : Fn) (first cap : Array Value) (w : World), (Instr.makeFunc fn first cap).run Try.prog w = .ok (.func fn first cap) w := fun _ _ _ _ => rfl
  have z1 : (w.alloc (.cells #[.string s] 9)).heap.size = w.heap.size + 1 := by simp
  have S1 := Own.new w 9 #[.string s]
  have G1 := (Grw.refl w).alloc (.cells #[.string s] 9)
  have G2 := (Grw.refl (w.alloc (.cells #[.string s] 9))).alloc (.cells #[.int .u64 0, .int .u32 0, .int .u64 0, .int .u64 0, .int .i64 0, .int .u64 0, .slice none 0 0] 33)
  have E2 : Own ((w.alloc (.cells #[.string s] 9)).alloc (.cells #[.int .u64 0, .int .u32 0, .int .u64 0, .int .u64 0, .int .i64 0, .int .u64 0, .slice none 0 0] 33)) (w.alloc (.cells #[.string s] 9)).heap.size 33 (encS zeroS none 0 0).toArray := Own.new _ _ _
  rw [z1] at E2
  have S2 := S1.below G2.below S1.lt
  have B2 := (G1.trans G2).below
  have z2 : ((w.alloc (.cells #[.string s] 9)).alloc (.cells #[.int .u64 0, .int .u32 0, .int .u64 0, .int .u64 0, .int .i64 0, .int .u64 0, .slice none 0 0] 33)).heap.size = w.heap.size + 2 := by simp
  have P := answerS s hs w.heap.size _ (S2.at_ 0 _ rfl)
  clear S1 G1 G2 z1 S2
  go_enter Try.func7, Try.ntmps7
  go_wp2_with fail
  refine P.mono ?_
  rintro e w3 ⟨hb, ⟨x, _, hG, rfl, ⟨pa, pk, pc, rfl, ho, hol, hok⟩⟩ | ⟨c, hc0, hG, rfl⟩⟩
  rotate_left
  · have E3 := E2.below hb E2.lt
    have B3 := B2.trans (hb.mono B2.size)
    clear P
    go_wp2_with (refine store_stable rfl (.tmp 2) (.tmp 6) rfl (w.heap.size + 1) rfl rfl E3 ?_)
    refine bodyPost_ret (results_ctS rfl _ _ (w.heap.size + 1) rfl (E3.row _)) rfl ?_
    exact ⟨belowRow18 B3 _ (by omega) _, .inr ⟨c, hc0, hG, rfl⟩⟩
  have hz : w.heap.size + 2 ≤ w3.heap.size := by rw [← z2]; exact hb.size
  have E3 := E2.below hb E2.lt
  have B3 := Lib.hid (B2.trans (hb.mono B2.size))
  rw [z2] at ho
  have HO := Lib.hid ho
  have HG := Lib.hid hG
  clear P E2 B2 z2 hb ho hG
  go_wp2_with (refine store_stable rfl (.tmp 2) (.tmp 6) rfl (w.heap.size + 1) rfl rfl E3 ?_)
  refine bodyPost_ret (results_ctS rfl _ _ (w.heap.size + 1) rfl (E3.row _)) rfl ?_
  exact ⟨belowRow18 B3.out _ (by omega) _, .inl ⟨x, _, HG.out, rfl, ⟨pa, pk, pc, rfl, own_base (own_setRow HO.out (by omega) _) (by omega), hol, hok⟩⟩⟩

/-- The two results' cells of answer. -/
theorem results_twoI {fn : Func} {p u : Tmp} (h : fn.results = #[.cell p 43, .cell u 34]) (tmps : Array Value) {W : World} {g g1 : Nat} {cs : Array Value} {c : Int}
    (hp : tmps.getD p undef = .pointer (some ⟨g, 0, none⟩)) (hu : tmps.getD u undef = .pointer (some ⟨g1, 0, none⟩)) (h0 : Own W g 43 cs) (h1 : Own W g1 34 #[.int .i64 c]) (hl : cs.size = 18) :
    (results fn tmps).run Try.prog W = .ok (.tuple #[.agg cs, .int .i64 c]) W := by
  have hl := run_loadVar_row (P := Try.prog) W g 43 43 cs (0, 0) _ h0 Try.underlying43 rfl (by rw [item_size, hl])
  have hc : W.cell? ⟨g1, 0, none⟩ = some (.int .i64 c) := h1.at_ 0 _ rfl
  have hp' : tmps[p]?.getD undef = .pointer (some ⟨g, 0, none⟩) := by simpa using hp
  have hu' : tmps[u]?.getD undef = .pointer (some ⟨g1, 0, none⟩) := by simpa using hu
  simp [results, h, hp', hu', asAddr, hl, Result.andThen]
  simp [loadVar, go_sem, hc]
set_option maxHeartbeats 4000000 in
theorem answerI (s : ByteArray) (hs : s.size ≤ 1099511627776) (g : Nat) (w : World) (hc : w.cell? ⟨g, 0, none⟩ = some (.string s)) :
    Calls Try.prog 29 #[.func (.func 30) #[] #[.pointer (some ⟨g, 0, none⟩)]] w fun e w' => Below w.heap.size w w' ∧ ((∃ v val, parseI s.data.toList = .ok v ∧ e = .returned (.tuple #[val, .int .i64 0]) ∧ ItD w.heap.size w' v val) ∨
      (∃ c, c ≠ 0 ∧ parseI s.data.toList = .error c ∧ e = .returned (.tuple #[.agg (encI zeroI { data := #[] } none 0 0).toArray, .int .i64 (c : Int)]))) := by
  have hmf : ∀ (fn : Fn) (first cap : Array Value) (w : World), (Instr.makeFunc fn first cap).run Try.prog w = .ok (.func fn first cap) w := fun _ _ _ _ => rfl
  have z1 : (w.alloc (.cells #[.int .i64 0, .string { data := #[] }, .int .u32 0, .int .u64 0, .bool false, .bool false, .int .u64 0, .int .u64 0, .int .i64 0, .int .u64 0, .slice none 0 0, .int .u64 0, .int .u64 0, .int .i64 0, .int .u64 0, .int .u64 0, .int .i64 0, .int .i64 0] 43)).heap.size = w.heap.size + 1 := by simp
  have S1 : Own (w.alloc (.cells #[.int .i64 0, .string { data := #[] }, .int .u32 0, .int .u64 0, .bool false, .bool false, .int .u64 0, .int .u64 0, .int .i64 0, .int .u64 0, .slice none 0 0, .int .u64 0, .int .u64 0, .int .i64 0, .int .u64 0, .int .u64 0, .int .i64 0, .int .i64 0] 43)) w.heap.size 43 (encI zeroI { data := #[] } none 0 0).toArray := Own.new _ _ _
  have G1 := (Grw.refl w).alloc (.cells #[.int .i64 0, .string { data := #[] }, .int .u32 0, .int .u64 0, .bool false, .bool false, .int .u64 0, .int .u64 0, .int .i64 0, .int .u64 0, .slice none 0 0, .int .u64 0, .int .u64 0, .int .i64 0, .int .u64 0, .int .u64 0, .int .i64 0, .int .i64 0] 43)
  have E2 := Own.new (w.alloc (.cells #[.int .i64 0, .string { data := #[] }, .int .u32 0, .int .u64 0, .bool false, .bool false, .int .u64 0, .int .u64 0, .int .i64 0, .int .u64 0, .slice none 0 0, .int .u64 0, .int .u64 0, .int .i64 0, .int .u64 0, .int .u64 0, .int .i64 0, .int .i64 0] 43)) 34 #[.int .i64 0]
  rw [z1] at E2
  have G2 := (Grw.refl (w.alloc (.cells #[.int .i64 0, .string { data := #[] }, .int .u32 0, .int .u64 0, .bool false, .bool false, .int .u64 0, .int .u64 0, .int .i64 0, .int .u64 0, .slice none 0 0, .int .u64 0, .int .u64 0, .int .i64 0, .int .u64 0, .int .u64 0, .int .i64 0, .int .i64 0] 43))).alloc (.cells #[.int .i64 0] 34)
  have S2 := S1.below G2.below S1.lt
  have B2 := (G1.trans G2).below
  have hc2 := cell_later B2 hc
  have z2 : ((w.alloc (.cells #[.int .i64 0, .string { data := #[] }, .int .u32 0, .int .u64 0, .bool false, .bool false, .int .u64 0, .int .u64 0, .int .i64 0, .int .u64 0, .slice none 0 0, .int .u64 0, .int .u64 0, .int .i64 0, .int .u64 0, .int .u64 0, .int .i64 0, .int .i64 0] 43)).alloc (.cells #[.int .i64 0] 34)).heap.size = w.heap.size + 2 := by simp
  have P := parse1I s hs g _ hc2
  clear S1 G1 G2 hc hc2 z1
  go_enter_defers Try.func29, Try.ntmps29
  go_wp2_with fail
  refine P.mono ?_
  rintro e w3 ⟨hb, ⟨x, _, hG, rfl, ⟨T, pa, pk, pc, rfl, ho⟩⟩ | ⟨c, hc0, hG, rfl⟩⟩
  rotate_left
  · have S3 := S2.below hb S2.lt
    have E3 := E2.below hb E2.lt
    have B3 := B2.trans (hb.mono B2.size)
    refine leaves_cons (f := 50) (args := #[.pointer (some ⟨w.heap.size + 1, 0, none⟩)]) (by simp) (by simp [go_sem]) ?_
    refine (acatchI (w.heap.size + 1) (c : Int) w3 _ E3).mono ?_
    rintro e u' w'' ⟨rfl, rfl, rfl⟩
    exact ⟨_, results_twoI rfl _ rfl rfl (S3.set_other _ _ _ (by omega)) (E3.set 0 _) rfl, B3.setCell (by simp) _, .inr ⟨c, hc0, hG, rfl⟩⟩
  have hz : w.heap.size + 2 ≤ w3.heap.size := by rw [← z2]; exact hb.size
  have S3 := S2.below hb S2.lt
  have E3 := E2.below hb E2.lt
  have B3 := B2.trans (hb.mono B2.size)
  rw [z2] at ho
  have E4 : Own (w3.setRow w.heap.size (encI x T pa pk pc).toArray) (w.heap.size + 1) 34 #[.int .i64 0] := E3.row_other _ (by omega)
  have c1 : (w3.setRow w.heap.size (encI x T pa pk pc).toArray).cell? ⟨w.heap.size + 1, 0, none⟩ = some (.int .i64 0) := E4.at_ 0 _ rfl
  have f1 : (w3.setRow w.heap.size (encI x T pa pk pc).toArray).frozen? ⟨w.heap.size + 1, 0, none⟩ = false := E4.free 0
  have HO := Lib.hid ho
  have HG := Lib.hid hG
  clear P S2 E2 B2 z2 hb ho hG
  go_wp2_with (refine store_item rfl (.tmp 2) (.tmp 6) rfl w.heap.size rfl rfl S3 ?_)
  refine leaves_cons (f := 50) (args := #[.pointer (some ⟨w.heap.size + 1, 0, none⟩)]) (by simp) (by simp [go_sem]) ?_
  refine (aidleI _ _).mono ?_
  rintro e u' w'' ⟨rfl, rfl, rfl⟩
  exact ⟨_, results_twoI rfl _ rfl rfl ((S3.row _).set_other _ _ _ (by omega)) (E4.set 0 _) rfl, (belowRow18 B3 _ (Nat.le_refl _) _).setCell (by simp) _, .inl ⟨x, _, HG.out, rfl, ⟨T, pa, pk, pc, rfl, ((HO.out.setRow (by omega) _).set (by omega) _ _).mono (by omega)⟩⟩⟩
theorem results_ctI {fn : Func} {p u : Tmp} (h : fn.results = #[.cell p 43, .tmp u]) (tmps : Array Value) (w : World) (g : Nat) {x : Itm} {T : ByteArray} {a : Option Addr} {k c : Nat}
    (hp : tmps.getD p undef = .pointer (some ⟨g, 0, none⟩)) (hg : Own w g 43 (encI x T a k c).toArray) :
    (results fn tmps).run Try.prog w = .ok (.tuple #[.agg (encI x T a k c).toArray, tmps.getD u undef]) w := by
  rw [results_cell_tmp h, hp]
  have hl := run_loadVar_row (P := Try.prog) w g 43 43 (encI x T a k c).toArray (0, 0) _ hg Try.underlying43 rfl item_size
  simp [asAddr, hl, Result.andThen]
set_option maxHeartbeats 4000000 in
theorem lparseI (s : ByteArray) (hs : s.size ≤ 1099511627776) (w : World) :
    Calls Try.prog 9 #[.string s] w fun e w' => Below w.heap.size w w' ∧ ((∃ v val, parseI s.data.toList = .ok v ∧ e = .returned (.tuple #[val, .int .i64 0]) ∧ ItD w.heap.size w' v val) ∨
      (∃ c, c ≠ 0 ∧ parseI s.data.toList = .error c ∧ e = .returned (.tuple #[.agg (encI zeroI { data := #[] } none 0 0).toArray, .int .i64 (c : Int)]))) := by
  have hmf : ∀ (fn : Fn) (first cap : Array Value) (w : World), (Instr.makeFunc fn first cap).run Try.prog w = .ok (.func fn first cap) w := fun _ _ _ _ => rfl
  have z1 : (w.alloc (.cells #[.string s] 9)).heap.size = w.heap.size + 1 := by simp
  have S1 := Own.new w 9 #[.string s]
  have G1 := (Grw.refl w).alloc (.cells #[.string s] 9)
  have G2 := (Grw.refl (w.alloc (.cells #[.string s] 9))).alloc (.cells #[.int .i64 0, .string { data := #[] }, .int .u32 0, .int .u64 0, .bool false, .bool false, .int .u64 0, .int .u64 0, .int .i64 0, .int .u64 0, .slice none 0 0, .int .u64 0, .int .u64 0, .int .i64 0, .int .u64 0, .int .u64 0, .int .i64 0, .int .i64 0] 43)
  have E2 : Own ((w.alloc (.cells #[.string s] 9)).alloc (.cells #[.int .i64 0, .string { data := #[] }, .int .u32 0, .int .u64 0, .bool false, .bool false, .int .u64 0, .int .u64 0, .int .i64 0, .int .u64 0, .slice none 0 0, .int .u64 0, .int .u64 0, .int .i64 0, .int .u64 0, .int .u64 0, .int .i64 0, .int .i64 0] 43)) (w.alloc (.cells #[.string s] 9)).heap.size 43 (encI zeroI { data := #[] } none 0 0).toArray := Own.new _ _ _
  rw [z1] at E2
  have S2 := S1.below G2.below S1.lt
  have B2 := (G1.trans G2).below
  have z2 : ((w.alloc (.cells #[.string s] 9)).alloc (.cells #[.int .i64 0, .string { data := #[] }, .int .u32 0, .int .u64 0, .bool false, .bool false, .int .u64 0, .int .u64 0, .int .i64 0, .int .u64 0, .slice none 0 0, .int .u64 0, .int .u64 0, .int .i64 0, .int .u64 0, .int .u64 0, .int .i64 0, .int .i64 0] 43)).heap.size = w.heap.size + 2 := by simp
  have P := answerI s hs w.heap.size _ (S2.at_ 0 _ rfl)
  clear S1 G1 G2 z1 S2
  go_enter Try.func9, Try.ntmps9
  go_wp2_with fail
  refine P.mono ?_
  rintro e w3 ⟨hb, ⟨x, _, hG, rfl, ⟨T, pa, pk, pc, rfl, ho⟩⟩ | ⟨c, hc0, hG, rfl⟩⟩
  rotate_left
  · have E3 := E2.below hb E2.lt
    have B3 := B2.trans (hb.mono B2.size)
    clear P
    go_wp2_with (refine store_item rfl (.tmp 2) (.tmp 6) rfl (w.heap.size + 1) rfl rfl E3 ?_)
    refine bodyPost_ret (results_ctI rfl _ _ (w.heap.size + 1) rfl (E3.row _)) rfl ?_
    exact ⟨belowRow18 B3 _ (by omega) _, .inr ⟨c, hc0, hG, rfl⟩⟩
  have hz : w.heap.size + 2 ≤ w3.heap.size := by rw [← z2]; exact hb.size
  have E3 := E2.below hb E2.lt
  have B3 := Lib.hid (B2.trans (hb.mono B2.size))
  rw [z2] at ho
  have HO := Lib.hid ho
  have HG := Lib.hid hG
  clear P E2 B2 z2 hb ho hG
  go_wp2_with (refine store_item rfl (.tmp 2) (.tmp 6) rfl (w.heap.size + 1) rfl rfl E3 ?_)
  refine bodyPost_ret (results_ctI rfl _ _ (w.heap.size + 1) rfl (E3.row _)) rfl ?_
  exact ⟨belowRow18 B3.out _ (by omega) _, .inl ⟨x, _, HG.out, rfl, ⟨T, pa, pk, pc, rfl, (HO.out.setRow (by omega) _).mono (by omega)⟩⟩⟩
end Go.Proofs.Ytblefbjmjhgkkaa
