/- The program's Take. (Written by wip/gen_stakep.py.) -/
import Derived.Test.YtcnfkjjfegjecaaSReady
set_option linter.unusedVariables false
set_option linter.unusedSimpArgs false
namespace Go.Proofs.Ytcnfkjjfegjecaa
open Go.RowKit Go.Sort Go.Maps

/-- What is told of a message of number q. -/
def codeF (sz c : Nat) (H : Nat → Option Mg) (q : Nat) : Nat := if q = 0 then 1 else if q ≤ c ∨ (H q).isSome = true then 12 else if c + sz < q then 6 else 0
def errT (k : Nat) : Ending := .returned (.tuple #[.slice none 0 0, .int .i64 (k : Int)])
set_option maxHeartbeats 2000000 in
theorem take_1 {w : World} {g b sz c n : Nat} {H : Nat → Option Mg} (h : SmB w g b sz c H n) (f s v : Int) (a : Option Addr) (dl dc : Nat) (deps : List Int) (text : ByteArray) :
    Calls Try.prog 11 #[.pointer (some ⟨g, 0, none⟩), valG ⟨f, 0, s, v, a, dl, dc, deps, text⟩] w fun e w' => e = errT 1 ∧ Grw w w' := by
  unfold valG
  simp only [encG]
  go_enter Try.func11, Try.ntmps11
  go_wp2
  go_ret2
  exact ⟨rfl, (Grw.refl w).alloc _⟩
set_option maxHeartbeats 4000000 in
theorem take_12a {w : World} {g b sz c n : Nat} {H : Nat → Option Mg} (h : SmB w g b sz c H n) (f s v : Int) (q : Nat) (a : Option Addr) (dl dc : Nat) (deps : List Int) (text : ByteArray) (hq : q ≠ 0) (hqc : q ≤ c) :
    Calls Try.prog 11 #[.pointer (some ⟨g, 0, none⟩), valG ⟨f, (q : Int), s, v, a, dl, dc, deps, text⟩] w fun e w' => e = errT 12 ∧ Grw w w' := by
  have mixed : Try.prog.follows .mixedOrders = true := by kernel_rfl
  have MB := MgB.new w ⟨f, (q : Int), s, v, a, dl, dc, deps, text⟩
  have S0 := h.alloc (.cells #[.int .i64 f, .int .u32 (q : Int), .int .u64 s, .int .i64 v, .slice a dl dc, .string text] 37)
  have G0 : Grw w (w.alloc (.cells #[.int .i64 f, .int .u32 (q : Int), .int .u64 s, .int .i64 v, .slice a dl dc, .string text] 37)) := (Grw.refl w).alloc _
  have hq0 : ((q : Int) == 0) = false := by simp; omega
  have hle : (q : Int) ≤ (c : Int) := by omega
  have m1 := fun n os => cell_grown (n := n) (os := os) (MB.lt) (MB.own.at_ 1 _ rfl)
  have c1 := fun n os => cell_grown (n := n) (os := os) (S0.own.lt) (S0.own.at_ 1 _ rfl)
  have a1 := MB.own.at_ 1 _ rfl
  have HG := Lib.hid G0
  clear h S0 MB G0
  unfold valG
  simp only [encG]
  go_enter Try.func11, Try.ntmps11
  go_upto_region 3 with fail
  generalize w.alloc (.cells #[.int .i64 f, .int .u32 (q : Int), .int .u64 s, .int .i64 v, .slice a dl dc, .string text] 37) = W at *
  go_quiet_grown (fail)
  go_wp2
  go_ret2
  exact ⟨rfl, HG.out.trans ⟨nq, osq, rfl⟩⟩
set_option maxHeartbeats 4000000 in
theorem take_12b {w : World} {g b sz c n : Nat} {H : Nat → Option Mg} (h : SmB w g b sz c H n) (f s v : Int) (q : Nat) (a : Option Addr) (dl dc : Nat) (deps : List Int) (text : ByteArray) (hq : q ≠ 0) (hqc : ¬ q ≤ c) (hq4 : q < 4294967296) (hH : (H q).isSome = true) :
    Calls Try.prog 11 #[.pointer (some ⟨g, 0, none⟩), valG ⟨f, (q : Int), s, v, a, dl, dc, deps, text⟩] w fun e w' => e = errT 12 ∧ Grw w w' := by
  have mixed : Try.prog.follows .mixedOrders = true := by kernel_rfl
  have MB := MgB.new w ⟨f, (q : Int), s, v, a, dl, dc, deps, text⟩
  have S0 := h.alloc (.cells #[.int .i64 f, .int .u32 (q : Int), .int .u64 s, .int .i64 v, .slice a dl dc, .string text] 37)
  have G0 : Grw w (w.alloc (.cells #[.int .i64 f, .int .u32 (q : Int), .int .u64 s, .int .i64 v, .slice a dl dc, .string text] 37)) := (Grw.refl w).alloc _
  have hq0 : ((q : Int) == 0) = false := by simp; omega
  have hle : ¬ (q : Int) ≤ (c : Int) := by omega
  have m1 := fun n os => cell_grown (n := n) (os := os) (MB.lt) (MB.own.at_ 1 _ rfl)
  have c1 := fun n os => cell_grown (n := n) (os := os) (S0.own.lt) (S0.own.at_ 1 _ rfl)
  have a1 := MB.own.at_ 1 _ rfl
  have hs : ∀ n os, Calls Try.prog 20 #[.pointer (some ⟨g, 0, none⟩), .int .u32 (q : Int)] (grow ((w.alloc (.cells #[.int .i64 f, .int .u32 (q : Int), .int .u64 s, .int .i64 v, .slice a dl dc, .string text] 37)).drewN n) os) fun e w' => e = .returned (.bool true) ∧ ∃ q' os', w' = grow ((grow ((w.alloc (.cells #[.int .i64 f, .int .u32 (q : Int), .int .u64 s, .int .i64 v, .slice a dl dc, .string text] 37)).drewN n) os).drewN q') os' := fun n os => by
    have := sholds (S0.below (Grw.below ⟨n, os, rfl⟩)) q hq4
    rw [hH] at this
    exact this
  have HG := Lib.hid G0
  clear h S0 MB G0 hH
  unfold valG
  simp only [encG]
  go_enter Try.func11, Try.ntmps11
  go_upto_region 3 with fail
  generalize w.alloc (.cells #[.int .i64 f, .int .u32 (q : Int), .int .u64 s, .int .i64 v, .slice a dl dc, .string text] 37) = W at *
  go_quiet_grown ((go_at_call 20; exact Calls.grown_of (hs _ _)))
  go_wp2
  go_ret2
  exact ⟨rfl, HG.out.trans ⟨nq, osq, rfl⟩⟩
set_option maxHeartbeats 4000000 in
theorem take_6 {w : World} {g b sz c n : Nat} {H : Nat → Option Mg} (h : SmB w g b sz c H n) (f s v : Int) (q : Nat) (a : Option Addr) (dl dc : Nat) (deps : List Int) (text : ByteArray) (hq : q ≠ 0) (hqc : ¬ q ≤ c) (hq4 : q < 4294967296) (hH : H q = none) (hf : c + sz < q) :
    Calls Try.prog 11 #[.pointer (some ⟨g, 0, none⟩), valG ⟨f, (q : Int), s, v, a, dl, dc, deps, text⟩] w fun e w' => e = errT 6 ∧ Grw w w' := by
  have mixed : Try.prog.follows .mixedOrders = true := by kernel_rfl
  have MB := MgB.new w ⟨f, (q : Int), s, v, a, dl, dc, deps, text⟩
  have S0 := h.alloc (.cells #[.int .i64 f, .int .u32 (q : Int), .int .u64 s, .int .i64 v, .slice a dl dc, .string text] 37)
  have G0 : Grw w (w.alloc (.cells #[.int .i64 f, .int .u32 (q : Int), .int .u64 s, .int .i64 v, .slice a dl dc, .string text] 37)) := (Grw.refl w).alloc _
  have hq0 : ((q : Int) == 0) = false := by simp; omega
  have hle : ¬ (q : Int) ≤ (c : Int) := by omega
  have m1 := fun n os => cell_grown (n := n) (os := os) (MB.lt) (MB.own.at_ 1 _ rfl)
  have c1 := fun n os => cell_grown (n := n) (os := os) (S0.own.lt) (S0.own.at_ 1 _ rfl)
  have c0 := fun n os => cell_grown (n := n) (os := os) (S0.own.lt) (S0.own.at_ 0 _ rfl)
  have a1 := MB.own.at_ 1 _ rfl
  have hs : ∀ n os, Calls Try.prog 20 #[.pointer (some ⟨g, 0, none⟩), .int .u32 (q : Int)] (grow ((w.alloc (.cells #[.int .i64 f, .int .u32 (q : Int), .int .u64 s, .int .i64 v, .slice a dl dc, .string text] 37)).drewN n) os) fun e w' => e = .returned (.bool false) ∧ ∃ q' os', w' = grow ((grow ((w.alloc (.cells #[.int .i64 f, .int .u32 (q : Int), .int .u64 s, .int .i64 v, .slice a dl dc, .string text] 37)).drewN n) os).drewN q') os' := fun n os => by
    have := sholds (S0.below (Grw.below ⟨n, os, rfl⟩)) q hq4
    rw [hH] at this
    exact this
  obtain ⟨r, hr⟩ : ∃ r : Nat, r = q - c := ⟨_, rfl⟩
  have hre : (q : Int) - (c : Int) = (r : Int) := by omega
  have HG := Lib.hid G0
  have hgt : (sz : Int) < (r : Int) := by omega
  clear h S0 MB G0 hH hr
  unfold valG
  simp only [encG]
  go_enter Try.func11, Try.ntmps11
  go_upto_region 3 with fail
  generalize w.alloc (.cells #[.int .i64 f, .int .u32 (q : Int), .int .u64 s, .int .i64 v, .slice a dl dc, .string text] 37) = W at *
  go_quiet_grown ((go_at_call 20; exact Calls.grown_of (hs _ _)))
  clear hs
  have d1 := m1 nq osq
  have d2 := c1 nq osq
  have d3 := c0 nq osq
  have HG2 := Lib.hid (HG.out.trans ⟨nq, osq, rfl⟩)
  clear m1 c1 c0 HG a1
  generalize grow (W.drewN nq) osq = W2 at *
  go_wp2_with fail
  go_quiet (fail)
  go_wp2
  go_ret2
  exact ⟨rfl, HG2.out.drewN _⟩
theorem own_turned {w w' : World} {g b : Nat} {ty : TypeId} {cs : Array Value} (h : Own w g ty cs) (T : w.mapTurned w' b) : Own w' g ty cs := by
  refine h.grown T.grown (fun e => ?_)
  injection e with e
  obtain ⟨es, clock, _, _, hb, _⟩ := T
  have := h.is
  rw [e, hb] at this
  cases this
/-- The stream's block, and a message's. -/
structure THeld (g b sz c gm : Nat) (m : Mg) (w : World) : Prop where
  own : Own w g 56 #[.int .u32 (sz : Int), .int .u32 (c : Int), .map (some b)]
  msg : MgB w gm m
theorem yields_mg {ops : Array Oper} {S : World → Prop} {op : Oper} {a : Act} (hw : Region.wanted op (yielded ops a.tmps) = true) (x : Operand) (ho : op.op = .load 37 x)
    (g : Nat) (hx : a.eval x = .pointer (some ⟨g, 0, none⟩)) {m : Mg} (hS : ∀ w, S w → MgB w g m) : YieldsIf Try.prog ops S op (valG m) a :=
  yieldsIf_load_mid hw 37 x ho g 0 hx (encG m) _ (fun w' hS' j v hj => by rw [Nat.zero_add]; exact Own.at_ (hS w' hS') j v (by rw [List.getElem?_toArray]; exact hj)) Try.underlying37 rfl msg_size
theorem DpIn.below_grw {w w' : World} {m : Mg} (h : DpIn w m) (hg : Grw w w') : DpIn w' m := h.below hg.below
/-- A copy stays where the blocks of its Deps do. -/
theorem CopyOf.moved {w w' : World} {B B' : Nat} {m x : Mg} (h : CopyOf w B m x) (hB : B' ≤ B) (hb : ∀ k, B ≤ k → (∃ c, w.cell? ⟨k, c, none⟩ ≠ none) → w'.heap[k]? = w.heap[k]?) : CopyOf w' B' m x := by
  refine ⟨h.like, ⟨h.deps.size, fun h0 => ?_⟩, fun ad e => Nat.le_trans hB (h.new ad e)⟩
  obtain ⟨b, o, e, R⟩ := h.deps.src h0
  refine ⟨b, o, e, fun i y hy c u hu => ?_⟩
  have h1 := R i y hy c u hu
  exact (World.cell?_of_block (w := w) (hb b (h.new _ e) ⟨_, by rw [h1]; exact Option.some_ne_none _⟩)).trans h1
/-- What Take answers of a message that is held now. -/
def TakePost (w : World) (g b sz c n : Nat) (H : Nat → Option Mg) (m : Mg) (q : Nat) (e : Ending) (w' : World) : Prop :=
  ∃ (w1 : World) (x : Mg) (k : Nat) (ao : Option Addr) (cap : Nat), e = .returned (.tuple #[.slice ao k cap, .int .i64 0]) ∧ CopyOf w1 w.heap.size m x ∧ Mv g b w w1 ∧ ReadyPost w1 g b sz c (n + 1) (setF H q (some x)) (.returned (.slice ao k cap)) w'
set_option maxHeartbeats 8000000 in
set_option maxRecDepth 100000 in
theorem take_0 {w : World} {g b sz c n : Nat} {H : Nat → Option Mg} (h : SmB w g b sz c H n) (f s v : Int) (q : Nat) (a : Option Addr) (dl dc : Nat) (deps : List Int) (text : ByteArray) (hq : q ≠ 0) (hqc : ¬ q ≤ c) (hq4 : q < 4294967296) (hH : H q = none) (hf : ¬ c + sz < q)
    (hd : DpIn w ⟨f, (q : Int), s, v, a, dl, dc, deps, text⟩) (hdl : dl ≤ 1048576) (hc : c + n + 2 < 4294967296) (hn : n ≤ 99999) :
    Calls Try.prog 11 #[.pointer (some ⟨g, 0, none⟩), valG ⟨f, (q : Int), s, v, a, dl, dc, deps, text⟩] w (TakePost w g b sz c n H ⟨f, (q : Int), s, v, a, dl, dc, deps, text⟩ q) := by
  have mixed : Try.prog.follows .mixedOrders = true := by kernel_rfl
  have MB := MgB.new w ⟨f, (q : Int), s, v, a, dl, dc, deps, text⟩
  have S0 := h.alloc (.cells #[.int .i64 f, .int .u32 (q : Int), .int .u64 s, .int .i64 v, .slice a dl dc, .string text] 37)
  have G0 : Grw w (w.alloc (.cells #[.int .i64 f, .int .u32 (q : Int), .int .u64 s, .int .i64 v, .slice a dl dc, .string text] 37)) := (Grw.refl w).alloc _
  have hq0 : ((q : Int) == 0) = false := by simp; omega
  have hle : ¬ (q : Int) ≤ (c : Int) := by omega
  have m1 := fun n os => cell_grown (n := n) (os := os) (MB.lt) (MB.own.at_ 1 _ rfl)
  have c1 := fun n os => cell_grown (n := n) (os := os) (S0.own.lt) (S0.own.at_ 1 _ rfl)
  have c0 := fun n os => cell_grown (n := n) (os := os) (S0.own.lt) (S0.own.at_ 0 _ rfl)
  have a1 := MB.own.at_ 1 _ rfl
  have hs : ∀ n os, Calls Try.prog 20 #[.pointer (some ⟨g, 0, none⟩), .int .u32 (q : Int)] (grow ((w.alloc (.cells #[.int .i64 f, .int .u32 (q : Int), .int .u64 s, .int .i64 v, .slice a dl dc, .string text] 37)).drewN n) os) fun e w' => e = .returned (.bool false) ∧ ∃ q' os', w' = grow ((grow ((w.alloc (.cells #[.int .i64 f, .int .u32 (q : Int), .int .u64 s, .int .i64 v, .slice a dl dc, .string text] 37)).drewN n) os).drewN q') os' := fun n os => by
    have := sholds (S0.below (Grw.below ⟨n, os, rfl⟩)) q hq4
    rw [hH] at this
    exact this
  obtain ⟨r, hr⟩ : ∃ r : Nat, r = q - c := ⟨_, rfl⟩
  have hre : (q : Int) - (c : Int) = (r : Int) := by omega
  have HG := Lib.hid G0
  have hgt : ¬ (sz : Int) < (r : Int) := by omega
  have HDI := Lib.hid hd
  have HHN := Lib.hid hH
  have HLT := Lib.hid h.lt
  have HNE := Lib.hid h.ne
  have HS0 := Lib.hid S0
  have HM0 := Lib.hid MB
  clear h S0 MB G0 hH hr hd
  unfold valG
  simp only [encG]
  go_enter Try.func11, Try.ntmps11
  go_upto_region 3 with fail
  have hz0 : (w.alloc (.cells #[.int .i64 f, .int .u32 (q : Int), .int .u64 s, .int .i64 v, .slice a dl dc, .string text] 37)).heap.size = w.heap.size + 1 := by simp
  generalize w.alloc (.cells #[.int .i64 f, .int .u32 (q : Int), .int .u64 s, .int .i64 v, .slice a dl dc, .string text] 37) = W at *
  go_quiet_grown ((go_at_call 20; exact Calls.grown_of (hs _ _)))
  clear hs
  have d1 := m1 nq osq
  have d2 := c1 nq osq
  have d3 := c0 nq osq
  have G1 : Grw W (grow (W.drewN nq) osq) := ⟨nq, osq, rfl⟩
  have HS1 := Lib.hid (HS0.out.below G1.below)
  have HM1 := Lib.hid (HM0.out.later G1.below)
  have HG2 := Lib.hid (HG.out.trans G1)
  clear m1 c1 c0 HG a1 G1 HS0 HM0
  generalize grow (W.drewN nq) osq = W2 at *
  go_wp2_with fail
  go_quiet (fail)
  clear hre d1 d2 d3
  have HS2 := Lib.hid (HS1.out.below ((Grw.refl W2).drewN nq).below)
  have HM2 := Lib.hid (HM1.out.later ((Grw.refl W2).drewN nq).below)
  have HG3 := Lib.hid (HG2.out.drewN nq)
  clear HS1 HM1 HG2
  generalize W2.drewN nq = W3 at *
  go_upto_region 7 with fail
  clear hgt
  have HT0 : THeld g b sz c w.heap.size ⟨f, (q : Int), s, v, a, dl, dc, deps, text⟩ W3.drew := ⟨HS2.out.own.drew, HM2.out.later (Grw.refl W3).drew.below⟩
  have HS3 := Lib.hid HS2.out.drew
  have HG4 := Lib.hid HG3.out.drew
  clear HS2 HM2 HG3
  refine wp_region_held_drew (S := THeld g b sz c w.heap.size ⟨f, (q : Int), s, v, a, dl, dc, deps, text⟩) (by kernel_rfl) HT0 (fun hHeld => ?_)
  clear HT0
  generalize W3.drew = W4 at *
  refine stake (i := 0) (v := (.pointer (some ⟨g, 0, none⟩))) 37 rfl (by kernel_rfl) (by kernel_rfl) (by kernel_rfl) (by kernel_rfl) (fun _ _ _ h => h) (.inl ⟨by kernel_rfl, fun w' hS => by (go_simp)⟩) hHeld ?_
  (try simp only [Act.put, List.setIfInBounds_toArray, List.set_cons_zero, List.set_cons_succ])
  refine stake (i := 1) (v := (.pointer (some ⟨g, 0, none⟩))) 38 rfl (by kernel_rfl) (by kernel_rfl) (by kernel_rfl) (by kernel_rfl) (fun _ _ _ h => h) (.inl ⟨by kernel_rfl, fun w' hS => by (go_simp)⟩) hHeld ?_
  (try simp only [Act.put, List.setIfInBounds_toArray, List.set_cons_zero, List.set_cons_succ])
  refine stake (i := 2) (v := (.pointer (some ⟨g, 2, none⟩))) 39 rfl (by kernel_rfl) (by kernel_rfl) (by kernel_rfl) (by kernel_rfl) (fun _ _ _ h => h) (.inl ⟨by kernel_rfl, fun w' hS => by (go_simp)⟩) hHeld ?_
  (try simp only [Act.put, List.setIfInBounds_toArray, List.set_cons_zero, List.set_cons_succ])
  refine stake (i := 3) (v := (.map (some b))) 40 rfl (by kernel_rfl) (by kernel_rfl) (by kernel_rfl) (by kernel_rfl) (fun _ _ _ h => h) (.inl ⟨by kernel_rfl, fun w' hS => by (have hc := hS.own.at_ 2 _ rfl; go_simp)⟩) hHeld ?_
  (try simp only [Act.put, List.setIfInBounds_toArray, List.set_cons_zero, List.set_cons_succ])
  refine stake (i := 4) (v := (.pointer (some ⟨w.heap.size, 1, none⟩))) 41 rfl (by kernel_rfl) (by kernel_rfl) (by kernel_rfl) (by kernel_rfl) (fun _ _ _ h => h) (.inl ⟨by kernel_rfl, fun w' hS => by (go_simp)⟩) hHeld ?_
  (try simp only [Act.put, List.setIfInBounds_toArray, List.set_cons_zero, List.set_cons_succ])
  refine stake (i := 5) (v := (.int .u32 (q : Int))) 42 rfl (by kernel_rfl) (by kernel_rfl) (by kernel_rfl) (by kernel_rfl) (fun _ _ _ h => h) (.inl ⟨by kernel_rfl, fun w' hS => by (have hc := hS.msg.own.at_ 1 _ rfl; go_simp)⟩) hHeld ?_
  (try simp only [Act.put, List.setIfInBounds_toArray, List.set_cons_zero, List.set_cons_succ])
  refine stake (i := 6) (v := (.agg #[.int .i64 f, .int .u32 (q : Int), .int .u64 s, .int .i64 v, .slice a dl dc, .string text])) 43 rfl (by kernel_rfl) (by kernel_rfl) (by kernel_rfl) (by kernel_rfl) (fun _ _ _ h => h) (yields_mg (m := ⟨f, (q : Int), s, v, a, dl, dc, deps, text⟩) (by kernel_rfl) (.tmp 3) rfl w.heap.size (by kernel_rfl) (fun _ hS => hS.msg)) hHeld ?_
  (try simp only [Act.put, List.setIfInBounds_toArray, List.set_cons_zero, List.set_cons_succ])
  have HS := Lib.hid hHeld
  have HOW := own_any ⟨f, (q : Int), s, v, a, dl, dc, deps, text⟩ W4 (HDI.out.below_grw HG4.out) hdl
  unfold valG at HOW
  simp only [encG] at HOW
  refine wpAnyH_ready (rs := [7]) (by kernel_rfl) (by simp) (AllReadyH.cons rfl (fun K hK => ?_) AllReadyH.nil)
  clear hHeld
  rw [if_pos (by kernel_rfl)]
  go_simp
  refine HOW.mono ?_
  rintro e W5 ⟨⟨xf, xq, xs, xv, xa, xdl, xdc, xdeps, xt⟩, rfl, CO, L5⟩
  have H5 : THeld g b sz c w.heap.size ⟨f, (q : Int), s, v, a, dl, dc, deps, text⟩ W5 := ⟨HS.out.own.below L5 HS.out.own.lt, HS.out.msg.later L5⟩
  have S5 := HS3.out.below L5
  have hs5 := HG4.out.below.size
  have M5 : Mv g b w W5 := (Mv.grw HG4.out).trans (.of_below L5)
  refine hK.out _ _ H5 (fun hHeld => ?_)
  clear hK K HS H5 HS3 HOW
  (try simp only [Act.put, List.setIfInBounds_toArray, List.set_cons_zero, List.set_cons_succ])
  obtain ⟨W6, hrun6, A6, T6⟩ := S5.map.store q hq4 HHN.out (by unfold maxLen; omega) ⟨xf, xq, xs, xv, xa, xdl, xdc, xdeps, xt⟩
  unfold valG at hrun6
  simp only [encG] at hrun6
  have S6 : SmB W6 g b sz c (setF H q (some ⟨xf, xq, xs, xv, xa, xdl, xdc, xdeps, xt⟩)) (n + 1) := ⟨S5.own.grown T6.grown (fun e => by cases e; exact HNE.out rfl), A6⟩
  have M6 := M5.turn T6
  have hb1 := HLT.out
  have CO6 : CopyOf W6 w.heap.size ⟨f, (q : Int), s, v, a, dl, dc, deps, text⟩ ⟨xf, xq, xs, xv, xa, xdl, xdc, xdeps, xt⟩ := CO.moved (by omega) (fun k hk hcell => by
    obtain ⟨cc, hcc⟩ := hcell
    cases hv : W5.cell? ⟨k, cc, none⟩ with
    | none => exact absurd hv hcc
    | some u => exact T6.grown.block k (World.block_lt_of_cell? _ _ hv) (fun e => by injection e with e; omega))
  have H6 : THeld g b sz c w.heap.size ⟨f, (q : Int), s, v, a, dl, dc, deps, text⟩ W6 := ⟨S6.own, own_turned hHeld.msg T6⟩
  clear S5 M5 CO A6 T6 L5
  refine wpAnyH_ready (rs := [8]) (by kernel_rfl) (by simp) (AllReadyH.cons rfl (fun K hK => ?_) AllReadyH.nil)
  clear hHeld
  rw [if_pos (by kernel_rfl)]
  go_simp
  refine hK.out _ _ H6 (fun hHeld => ?_)
  clear hK K hHeld hrun6 H6
  refine wpAnyH_done (by kernel_rfl) ?_ _
  have RD := sready S6 (by omega) (by omega)
  have HC6 := Lib.hid CO6
  have HM6 := Lib.hid M6
  clear S6 CO6 M6
  go_wp2_with (go_at_call 22; refine RD.mono ?_; rintro e W7 ⟨k, L, ao, cap, rfl, R⟩)
  go_ret2
  exact ⟨W6, ⟨xf, xq, xs, xv, xa, xdl, xdc, xdeps, xt⟩, k, ao, cap, rfl, HC6.out, HM6.out, ⟨k, L, ao, cap, rfl, R⟩⟩
end Go.Proofs.Ytcnfkjjfegjecaa
