/- LogParses: the walk. (Written by wip/gen_lgparses.py.) -/
import Derived.Test.YtblefbjmjhgkkaaZLgForm
set_option linter.unusedVariables false
set_option maxRecDepth 100000
set_option linter.unusedSimpArgs false
namespace Go.Proofs.Ytblefbjmjhgkkaa
open Go.RowKit Go.Sort

/-- The four boxes of the law. -/
structure PrS (W : World) (g3 g5 g7 g9 : Nat) (X : Stb) (a : Option Addr) (k c : Nat) (b : Option Addr) (m d : Nat) (Y : Itm) (e : Option Addr) (p q : Nat) (f : Option Addr) (r t : Nat) : Prop where
  x3 : Own W g3 33 (encS X a k c).toArray
  x5 : Own W g5 39 (encS X b m d).toArray
  x7 : Own W g7 43 (encI Y (textI Y) e p q).toArray
  x9 : Own W g9 47 (encI Y (textI Y) f r t).toArray
theorem PrS.below {W W' : World} {g3 g5 g7 g9 : Nat} {X : Stb} {a : Option Addr} {k c : Nat} {b : Option Addr} {m d : Nat} {Y : Itm} {e : Option Addr} {p q : Nat} {f : Option Addr} {r t : Nat} (h : PrS W g3 g5 g7 g9 X a k c b m d Y e p q f r t) (hb : Below W.heap.size W W') : PrS W' g3 g5 g7 g9 X a k c b m d Y e p q f r t :=
  ⟨h.x3.below hb h.x3.lt, h.x5.below hb h.x5.lt, h.x7.below hb h.x7.lt, h.x9.below hb h.x9.lt⟩
/-- A block of the call's own, made and stored. -/
theorem boxed19 (w : World) (ty : TypeId) (z cs : Array Value) : Own ((w.alloc (.cells z ty)).setRow w.heap.size cs) w.heap.size ty cs ∧ Below w.heap.size w ((w.alloc (.cells z ty)).setRow w.heap.size cs) :=
  ⟨Own.row (Own.new w ty z) cs, belowRow18 ((Grw.refl w).alloc _).below _ (Nat.le_refl _) _⟩
theorem stables_any (w : World) (X : Stb) (a : Option Addr) (k c : Nat) (b : Option Addr) (m d : Nat) (h1 : RcIn w ⟨X.r, a, k, c⟩) (h2 : RcIn w ⟨X.r, b, m, d⟩) (hk : k ≤ 300) (hm : m ≤ 300) :
    Calls Try.prog 11 #[.agg (encS X a k c).toArray, .agg (encS X b m d).toArray] w fun e w' => e = .returned (.bool true) ∧ Below w.heap.size w w' := by
  obtain ⟨ep, ic, ⟨⟨rn, re, rr, rm⟩, L⟩⟩ := X
  exact dstables_yes w ep ic rn re rr rm L a k c b m d h1.pend h2.pend (by omega) (by omega)
theorem items_any (w : World) (Y : Itm) (T : ByteArray) (a : Option Addr) (k c : Nat) (b : Option Addr) (m d : Nat) (h1 : RcIn w ⟨Y.r, a, k, c⟩) (h2 : RcIn w ⟨Y.r, b, m, d⟩) (hk : k ≤ 300) (hm : m ≤ 300) :
    Calls Try.prog 13 #[.agg (encI Y T a k c).toArray, .agg (encI Y T b m d).toArray] w fun e w' => e = .returned (.bool true) ∧ Below w.heap.size w w' := by
  obtain ⟨xk, xd, xi, xh, xa, xb, ⟨⟨rn, re, rr, rm⟩, L⟩, ⟨vn, ve, vr, vm⟩, xn, xx, xt⟩ := Y
  exact ditems_yes w xk T xi xh xa xb rn re rr rm L a k c b m d vn ve vr vm xn xx xt h1.pend h2.pend (by omega) (by omega)
theorem stable_any (w : World) (X : Stb) (a : Option Addr) (k c : Nat) : Calls Try.prog 12 #[.agg (encS X a k c).toArray] w fun e w' => e = .returned (.agg (encS X a k c).toArray) ∧ Below w.heap.size w w' := by
  obtain ⟨ep, ic, ⟨⟨rn, re, rr, rm⟩, L⟩⟩ := X
  exact lstable19 ep ic rn re rr rm a k c w
theorem item_any (w : World) (Y : Itm) (T : ByteArray) (a : Option Addr) (k c : Nat) : Calls Try.prog 14 #[.agg (encI Y T a k c).toArray] w fun e w' => e = .returned (.agg (encI Y T a k c).toArray) ∧ Below w.heap.size w w' := by
  obtain ⟨xk, xd, xi, xh, xa, xb, ⟨⟨rn, re, rr, rm⟩, L⟩, ⟨vn, ve, vr, vm⟩, xn, xx, xt⟩ := Y
  exact litem19 xk T xi xh xa xb rn re rr rm a k c vn ve vr vm xn xx xt w
set_option maxHeartbeats 16000000 in
theorem walk_LogParses {w : World} (s : ByteArray) (hs0 : s.size ≤ maxLen) : Calls Try.prog 3 #[.string s] w fun e w' => e = .returned (.bool true) ∧ Below w.heap.size w w' := by
  unfold maxLen at hs0
  go_enter Try.func3, Try.ntmps3
  go_wp2_with fail
  refine (awake19 w).mono ?_
  rintro e w1 ⟨rfl, B1⟩
  by_cases hl : 5000 < s.size
  · have hi : (5000 : Int) < (s.size : Int) := by omega
    go_wp2
    go_ret
    exact ⟨rfl, B1⟩
  have hs : s.size ≤ 1099511627776 := by omega
  have hi : ¬ (5000 : Int) < (s.size : Int) := by omega
  clear hs0 hl
  have P1 := formS hs w1
  have HP2 := Lib.hid (fun W => dformS (s := s) hs W)
  have HP3 := Lib.hid (fun W => formI (s := s) hs W)
  have HP4 := Lib.hid (fun W => dformI (s := s) hs W)
  generalize resS s = rs at *
  generalize resI s = ri at *
  obtain ⟨X, cs⟩ := rs
  obtain ⟨Y, ci⟩ := ri
  simp only at P1 HP2 HP3 HP4
  go_wp2_with fail
  refine P1.mono ?_
  rintro e w2 ⟨a, k, c, rfl, hst, hk, L2⟩
  have B2 := B1.trans (L2.mono B1.size)
  have R2 := hst.rc
  obtain ⟨X3, L3⟩ := boxed19 w2 33 #[.int .u64 0, .int .u32 0, .int .u64 0, .int .u64 0, .int .i64 0, .int .u64 0, .slice none 0 0] (encS X a k c).toArray
  have Z2 : Own (w2.alloc (.cells #[.int .u64 0, .int .u32 0, .int .u64 0, .int .u64 0, .int .i64 0, .int .u64 0, .slice none 0 0] 33)) w2.heap.size 33 (encS zeroS none 0 0).toArray := Own.new _ _ _
  have B3 := B2.trans (L3.mono B2.size)
  have R3 := R2.below L3
  clear P1 hst B1 L2 B2 R2 L3 hi
  go_upto_region 6 with (refine store_stable rfl (.tmp 3) (.tmp 19) rfl w2.heap.size rfl rfl Z2 ?_)
  clear Z2
  generalize (w2.alloc (.cells #[.int .u64 0, .int .u32 0, .int .u64 0, .int .u64 0, .int .i64 0, .int .u64 0, .slice none 0 0] 33)).setRow w2.heap.size (encS X a k c).toArray = w3 at *
  generalize w2.heap.size = g3 at *
  have P2 := HP2.out w3
  go_wp2_with fail
  refine P2.mono ?_
  rintro e w4 ⟨b, m, d, rfl, R4', hm, L4⟩
  have B4 := B3.trans (L4.mono B3.size)
  have R4 := R3.below L4
  have X4 := X3.below L4 X3.lt
  obtain ⟨Y5, L5⟩ := boxed19 w4 39 #[.int .u64 0, .int .u32 0, .int .u64 0, .int .u64 0, .int .i64 0, .int .u64 0, .slice none 0 0] (encS X b m d).toArray
  have Z4 : Own (w4.alloc (.cells #[.int .u64 0, .int .u32 0, .int .u64 0, .int .u64 0, .int .i64 0, .int .u64 0, .slice none 0 0] 39)) w4.heap.size 39 (encS zeroS none 0 0).toArray := Own.new _ _ _
  have B5 := B4.trans (L5.mono B4.size)
  have R5 := R4.below L5
  have R5' := R4'.below L5
  have X5 := X4.below L5 X4.lt
  clear P2 HP2 B3 L4 B4 R4 R4' X4 L5 R3 X3
  go_upto_region 7 with (refine store_dstable rfl (.tmp 5) (.tmp 24) rfl w4.heap.size rfl rfl Z4 ?_)
  clear Z4
  generalize (w4.alloc (.cells #[.int .u64 0, .int .u32 0, .int .u64 0, .int .u64 0, .int .i64 0, .int .u64 0, .slice none 0 0] 39)).setRow w4.heap.size (encS X b m d).toArray = w5 at *
  generalize w4.heap.size = g5 at *
  have P3 := HP3.out w5
  go_wp2_with fail
  refine P3.mono ?_
  rintro e w6 ⟨e', p, q, rfl, Q6, hp, L6⟩
  have B6 := B5.trans (L6.mono B5.size)
  have R6 := R5.below L6
  have R6' := R5'.below L6
  have X6 := X5.below L6 X5.lt
  have Y6 := Y5.below L6 Y5.lt
  obtain ⟨V7, L7⟩ := boxed19 w6 43 #[.int .i64 0, .string { data := #[] }, .int .u32 0, .int .u64 0, .bool false, .bool false, .int .u64 0, .int .u64 0, .int .i64 0, .int .u64 0, .slice none 0 0, .int .u64 0, .int .u64 0, .int .i64 0, .int .u64 0, .int .u64 0, .int .i64 0, .int .i64 0] (encI Y (textI Y) e' p q).toArray
  have Z6 : Own (w6.alloc (.cells #[.int .i64 0, .string { data := #[] }, .int .u32 0, .int .u64 0, .bool false, .bool false, .int .u64 0, .int .u64 0, .int .i64 0, .int .u64 0, .slice none 0 0, .int .u64 0, .int .u64 0, .int .i64 0, .int .u64 0, .int .u64 0, .int .i64 0, .int .i64 0] 43)) w6.heap.size 43 (encI zeroI { data := #[] } none 0 0).toArray := Own.new _ _ _
  have B7 := B6.trans (L7.mono B6.size)
  have R7 := R6.below L7
  have R7' := R6'.below L7
  have Q7 := Q6.below L7
  have X7 := X6.below L7 X6.lt
  have Y7 := Y6.below L7 Y6.lt
  clear P3 HP3 B5 L6 B6 R6 R6' X6 Y6 L7 R5 R5' X5 Y5 Q6
  go_upto_region 8 with (refine store_item rfl (.tmp 7) (.tmp 29) rfl w6.heap.size rfl rfl Z6 ?_)
  clear Z6
  generalize (w6.alloc (.cells #[.int .i64 0, .string { data := #[] }, .int .u32 0, .int .u64 0, .bool false, .bool false, .int .u64 0, .int .u64 0, .int .i64 0, .int .u64 0, .slice none 0 0, .int .u64 0, .int .u64 0, .int .i64 0, .int .u64 0, .int .u64 0, .int .i64 0, .int .i64 0] 43)).setRow w6.heap.size (encI Y (textI Y) e' p q).toArray = w7 at *
  generalize w6.heap.size = g7 at *
  have P4 := HP4.out w7
  go_wp2_with fail
  refine P4.mono ?_
  rintro e w8 ⟨f, r, t, rfl, Q8', hr, L8⟩
  have B8 := B7.trans (L8.mono B7.size)
  have R8 := R7.below L8
  have R8' := R7'.below L8
  have Q8 := Q7.below L8
  have X8 := X7.below L8 X7.lt
  have Y8 := Y7.below L8 Y7.lt
  have V8 := V7.below L8 V7.lt
  obtain ⟨U9, L9⟩ := boxed19 w8 47 #[.int .i64 0, .string { data := #[] }, .int .u32 0, .int .u64 0, .bool false, .bool false, .int .u64 0, .int .u64 0, .int .i64 0, .int .u64 0, .slice none 0 0, .int .u64 0, .int .u64 0, .int .i64 0, .int .u64 0, .int .u64 0, .int .i64 0, .int .i64 0] (encI Y (textI Y) f r t).toArray
  have Z8 : Own (w8.alloc (.cells #[.int .i64 0, .string { data := #[] }, .int .u32 0, .int .u64 0, .bool false, .bool false, .int .u64 0, .int .u64 0, .int .i64 0, .int .u64 0, .slice none 0 0, .int .u64 0, .int .u64 0, .int .i64 0, .int .u64 0, .int .u64 0, .int .i64 0, .int .i64 0] 47)) w8.heap.size 47 (encI zeroI { data := #[] } none 0 0).toArray := Own.new _ _ _
  have B9 := B8.trans (L9.mono B8.size)
  have R9 := R8.below L9
  have R9' := R8'.below L9
  have Q9 := Q8.below L9
  have Q9' := Q8'.below L9
  have S9 : PrS ((w8.alloc (.cells #[.int .i64 0, .string { data := #[] }, .int .u32 0, .int .u64 0, .bool false, .bool false, .int .u64 0, .int .u64 0, .int .i64 0, .int .u64 0, .slice none 0 0, .int .u64 0, .int .u64 0, .int .i64 0, .int .u64 0, .int .u64 0, .int .i64 0, .int .i64 0] 47)).setRow w8.heap.size (encI Y (textI Y) f r t).toArray) g3 g5 g7 w8.heap.size X a k c b m d Y e' p q f r t :=
    ⟨X8.below L9 X8.lt, Y8.below L9 Y8.lt, V8.below L9 V8.lt, U9⟩
  clear P4 HP4 B7 L8 B8 R8 R8' Q8 Q8' X8 Y8 V8 U9 L9 R7 R7' X7 Y7 V7 Q7
  go_upto_region 9 with (refine store_ditem rfl (.tmp 9) (.tmp 34) rfl w8.heap.size rfl rfl Z8 ?_)
  clear Z8
  generalize (w8.alloc (.cells #[.int .i64 0, .string { data := #[] }, .int .u32 0, .int .u64 0, .bool false, .bool false, .int .u64 0, .int .u64 0, .int .i64 0, .int .u64 0, .slice none 0 0, .int .u64 0, .int .u64 0, .int .i64 0, .int .u64 0, .int .u64 0, .int .i64 0, .int .i64 0] 47)).setRow w8.heap.size (encI Y (textI Y) f r t).toArray = w9 at *
  generalize w8.heap.size = g9 at *
  have LD := (Grw.refl w9).drew.below
  have B10 := B9.trans (LD.mono B9.size)
  have R10 := R9.below LD
  have R10' := R9'.below LD
  have Q10 := Q9.below LD
  have Q10' := Q9'.below LD
  have S10 := S9.below LD
  clear B9 R9 R9' Q9 Q9' S9 LD
  refine region_til [1, 3, 11, 13] (fun w' => PrS w' g3 g5 g7 g9 X a k c b m d Y e' p q f r t) (by kernel_rfl) ?_
  generalize w9.drew = wd at *
  have hTil : ∀ l, tilD [1, 3, 11, 13] (fun w' => PrS w' g3 g5 g7 g9 X a k c b m d Y e' p q f r t) l wd := fun _ => .inr S10
  refine til_load (i := 0) (c := 1) (v := .agg (encS X a k c).toArray) 36 rfl rfl (by kernel_rfl) (by kernel_rfl) (by kernel_rfl) (by kernel_rfl) rfl (by kernel_rfl) (by decide) (by kernel_rfl) (fun _ _ _ h => h) (yieldsIf_load_mid (by kernel_rfl) 33 (.tmp 3) rfl g3 0 (by kernel_rfl) (encS X a k c) _ (fun w' hS => own_range (PrS.x3 hS)) Try.underlying33 rfl stable_size) (hTil _) ?_
  (try simp only [Act.put, List.setIfInBounds_toArray, List.set_cons_zero, List.set_cons_succ])
  refine til_load (i := 2) (c := 3) (v := .agg (encS X b m d).toArray) 38 rfl rfl (by kernel_rfl) (by kernel_rfl) (by kernel_rfl) (by kernel_rfl) rfl (by kernel_rfl) (by decide) (by kernel_rfl) (fun _ _ _ h => h) (yieldsIf_load_mid (by kernel_rfl) 39 (.tmp 5) rfl g5 0 (by kernel_rfl) (encS X b m d) _ (fun w' hS => own_range (PrS.x5 hS)) Try.underlying39 rfl dstable_size) (hTil _) ?_
  (try simp only [Act.put, List.setIfInBounds_toArray, List.set_cons_zero, List.set_cons_succ])
  clear hTil
  refine til_next (i := 1) (by kernel_rfl) rfl (by kernel_rfl) (fun K hK => ?_)
  go_simp
  refine (stable_any _ X a k c).mono ?_
  rintro e w11 ⟨rfl, L11⟩
  have S11 := S10.below L11
  have B11 := B10.trans (L11.mono B10.size)
  have R11 := R10.below L11
  have R11' := R10'.below L11
  have Q11 := Q10.below L11
  have Q11' := Q10'.below L11
  refine hK.out _ _ (.inr S11) ?_
  clear hK K S10 B10 R10 R10' Q10 Q10' L11
  (try simp only [Act.put, List.setIfInBounds_toArray, List.set_cons_zero, List.set_cons_succ])
  have hTil : ∀ l, tilD [1, 3, 11, 13] (fun w' => PrS w' g3 g5 g7 g9 X a k c b m d Y e' p q f r t) l w11 := fun _ => .inr S11
  clear hTil
  refine til_next (i := 3) (by kernel_rfl) rfl (by kernel_rfl) (fun K hK => ?_)
  go_simp
  refine (stables_any _ X a k c b m d R11 R11' (by omega) (by omega)).mono ?_
  rintro e w12 ⟨rfl, L12⟩
  have S12 := S11.below L12
  have B12 := B11.trans (L12.mono B11.size)
  have R12 := R11.below L12
  have R12' := R11'.below L12
  have Q12 := Q11.below L12
  have Q12' := Q11'.below L12
  refine hK.out _ _ (.inr S12) ?_
  clear hK K S11 B11 R11 R11' Q11 Q11' L12
  (try simp only [Act.put, List.setIfInBounds_toArray, List.set_cons_zero, List.set_cons_succ])
  have hTil : ∀ l, tilD [1, 3, 11, 13] (fun w' => PrS w' g3 g5 g7 g9 X a k c b m d Y e' p q f r t) l w12 := fun _ => .inr S12
  refine til_pure (i := 4) (v := .bool true) 40 rfl rfl (by kernel_rfl) (by kernel_rfl) (by kernel_rfl) (by kernel_rfl) (fun _ _ _ h => h) (.inl ⟨by kernel_rfl, fun w' _ => by (go_simp)⟩) (hTil _) ?_
  (try simp only [Act.put, List.setIfInBounds_toArray, List.set_cons_zero, List.set_cons_succ])
  refine til_pure (i := 5) (v := .int .i64 (cs : Int)) 41 rfl rfl (by kernel_rfl) (by kernel_rfl) (by kernel_rfl) (by kernel_rfl) (fun _ _ _ h => h) (.inl ⟨by kernel_rfl, fun w' _ => by (go_simp)⟩) (hTil _) ?_
  (try simp only [Act.put, List.setIfInBounds_toArray, List.set_cons_zero, List.set_cons_succ])
  refine til_pure (i := 6) (v := .int .i64 (cs : Int)) 42 rfl rfl (by kernel_rfl) (by kernel_rfl) (by kernel_rfl) (by kernel_rfl) (fun _ _ _ h => h) (.inl ⟨by kernel_rfl, fun w' _ => by (go_simp)⟩) (hTil _) ?_
  (try simp only [Act.put, List.setIfInBounds_toArray, List.set_cons_zero, List.set_cons_succ])
  refine til_pure (i := 7) (v := .bool true) 43 rfl rfl (by kernel_rfl) (by kernel_rfl) (by kernel_rfl) (by kernel_rfl) (fun _ _ _ h => h) (.inl ⟨by kernel_rfl, fun w' _ => by (go_simp)⟩) (hTil _) ?_
  (try simp only [Act.put, List.setIfInBounds_toArray, List.set_cons_zero, List.set_cons_succ])
  refine til_pure (i := 8) (v := .bool true) 44 rfl rfl (by kernel_rfl) (by kernel_rfl) (by kernel_rfl) (by kernel_rfl) (fun _ _ _ h => h) (.inl ⟨by kernel_rfl, fun w' _ => by (go_simp)⟩) (hTil _) ?_
  (try simp only [Act.put, List.setIfInBounds_toArray, List.set_cons_zero, List.set_cons_succ])
  refine til_pure (i := 9) (v := .bool true) 45 rfl rfl (by kernel_rfl) (by kernel_rfl) (by kernel_rfl) (by kernel_rfl) (fun _ _ _ h => h) (.inl ⟨by kernel_rfl, fun w' _ => by (go_simp)⟩) (hTil _) ?_
  (try simp only [Act.put, List.setIfInBounds_toArray, List.set_cons_zero, List.set_cons_succ])
  refine til_load (i := 10) (c := 11) (v := .agg (encI Y (textI Y) e' p q).toArray) 46 rfl rfl (by kernel_rfl) (by kernel_rfl) (by kernel_rfl) (by kernel_rfl) rfl (by kernel_rfl) (by decide) (by kernel_rfl) (fun _ _ _ h => h) (yieldsIf_load_mid (by kernel_rfl) 43 (.tmp 7) rfl g7 0 (by kernel_rfl) (encI Y (textI Y) e' p q) _ (fun w' hS => own_range (PrS.x7 hS)) Try.underlying43 rfl item_size) (hTil _) ?_
  (try simp only [Act.put, List.setIfInBounds_toArray, List.set_cons_zero, List.set_cons_succ])
  refine til_load (i := 12) (c := 13) (v := .agg (encI Y (textI Y) f r t).toArray) 48 rfl rfl (by kernel_rfl) (by kernel_rfl) (by kernel_rfl) (by kernel_rfl) rfl (by kernel_rfl) (by decide) (by kernel_rfl) (fun _ _ _ h => h) (yieldsIf_load_mid (by kernel_rfl) 47 (.tmp 9) rfl g9 0 (by kernel_rfl) (encI Y (textI Y) f r t) _ (fun w' hS => own_range (PrS.x9 hS)) Try.underlying47 rfl ditem_size) (hTil _) ?_
  (try simp only [Act.put, List.setIfInBounds_toArray, List.set_cons_zero, List.set_cons_succ])
  clear hTil
  refine til_next (i := 11) (by kernel_rfl) rfl (by kernel_rfl) (fun K hK => ?_)
  go_simp
  refine (item_any _ Y (textI Y) e' p q).mono ?_
  rintro e w13 ⟨rfl, L13⟩
  have S13 := S12.below L13
  have B13 := B12.trans (L13.mono B12.size)
  have R13 := R12.below L13
  have R13' := R12'.below L13
  have Q13 := Q12.below L13
  have Q13' := Q12'.below L13
  refine hK.out _ _ (.inr S13) ?_
  clear hK K S12 B12 R12 R12' Q12 Q12' L13
  (try simp only [Act.put, List.setIfInBounds_toArray, List.set_cons_zero, List.set_cons_succ])
  have hTil : ∀ l, tilD [1, 3, 11, 13] (fun w' => PrS w' g3 g5 g7 g9 X a k c b m d Y e' p q f r t) l w13 := fun _ => .inr S13
  clear hTil
  refine til_next (i := 13) (by kernel_rfl) rfl (by kernel_rfl) (fun K hK => ?_)
  go_simp
  refine (items_any _ Y (textI Y) e' p q f r t Q13 Q13' (by omega) (by omega)).mono ?_
  rintro e w14 ⟨rfl, L14⟩
  have S14 := S13.below L14
  have B14 := B13.trans (L14.mono B13.size)
  have R14 := R13.below L14
  have R14' := R13'.below L14
  have Q14 := Q13.below L14
  have Q14' := Q13'.below L14
  refine hK.out _ _ (.inr S14) ?_
  clear hK K S13 B13 R13 R13' Q13 Q13' L14
  (try simp only [Act.put, List.setIfInBounds_toArray, List.set_cons_zero, List.set_cons_succ])
  have hTil : ∀ l, tilD [1, 3, 11, 13] (fun w' => PrS w' g3 g5 g7 g9 X a k c b m d Y e' p q f r t) l w14 := fun _ => .inr S14
  refine til_pure (i := 14) (v := .bool true) 50 rfl rfl (by kernel_rfl) (by kernel_rfl) (by kernel_rfl) (by kernel_rfl) (fun _ _ _ h => h) (.inl ⟨by kernel_rfl, fun w' _ => by (go_simp)⟩) (hTil _) ?_
  (try simp only [Act.put, List.setIfInBounds_toArray, List.set_cons_zero, List.set_cons_succ])
  refine til_pure (i := 15) (v := .bool true) 51 rfl rfl (by kernel_rfl) (by kernel_rfl) (by kernel_rfl) (by kernel_rfl) (fun _ _ _ h => h) (.inl ⟨by kernel_rfl, fun w' _ => by (go_simp)⟩) (hTil _) ?_
  (try simp only [Act.put, List.setIfInBounds_toArray, List.set_cons_zero, List.set_cons_succ])
  refine til_pure (i := 16) (v := .int .i64 (ci : Int)) 52 rfl rfl (by kernel_rfl) (by kernel_rfl) (by kernel_rfl) (by kernel_rfl) (fun _ _ _ h => h) (.inl ⟨by kernel_rfl, fun w' _ => by (go_simp)⟩) (hTil _) ?_
  (try simp only [Act.put, List.setIfInBounds_toArray, List.set_cons_zero, List.set_cons_succ])
  refine til_pure (i := 17) (v := .int .i64 (ci : Int)) 53 rfl rfl (by kernel_rfl) (by kernel_rfl) (by kernel_rfl) (by kernel_rfl) (fun _ _ _ h => h) (.inl ⟨by kernel_rfl, fun w' _ => by (go_simp)⟩) (hTil _) ?_
  (try simp only [Act.put, List.setIfInBounds_toArray, List.set_cons_zero, List.set_cons_succ])
  refine til_pure (i := 18) (v := .bool true) 54 rfl rfl (by kernel_rfl) (by kernel_rfl) (by kernel_rfl) (by kernel_rfl) (fun _ _ _ h => h) (.inl ⟨by kernel_rfl, fun w' _ => by (go_simp)⟩) (hTil _) ?_
  (try simp only [Act.put, List.setIfInBounds_toArray, List.set_cons_zero, List.set_cons_succ])
  refine til_pure (i := 19) (v := .bool true) 55 rfl rfl (by kernel_rfl) (by kernel_rfl) (by kernel_rfl) (by kernel_rfl) (fun _ _ _ h => h) (.inl ⟨by kernel_rfl, fun w' _ => by (go_simp)⟩) (hTil _) ?_
  (try simp only [Act.put, List.setIfInBounds_toArray, List.set_cons_zero, List.set_cons_succ])
  refine til_pure (i := 20) (v := .bool true) 2 rfl rfl (by kernel_rfl) (by kernel_rfl) (by kernel_rfl) (by kernel_rfl) (fun _ _ _ h => h) (.inl ⟨by kernel_rfl, fun w' _ => by (go_simp)⟩) (hTil _) ?_
  (try simp only [Act.put, List.setIfInBounds_toArray, List.set_cons_zero, List.set_cons_succ])
  clear hTil
  refine til_done (by kernel_rfl) ?_ _
  have HB := Lib.hid B14
  clear S14 B14 R14 R14' Q14 Q14'
  go_wp2
  go_ret
  exact ⟨rfl, HB.out⟩
end Go.Proofs.Ytblefbjmjhgkkaa
