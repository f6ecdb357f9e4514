/- The document's order: member, Take. (Written by gen_rotake.py.) -/
import Derived.Test.YtfocjcdfpnbkjaaZRoKit
import Derived.Test.YtfocjcdfpnbkjaaZRhPut
set_option linter.unusedVariables false
set_option maxRecDepth 100000
set_option linter.unusedSimpArgs false
namespace Go.Proofs.Ytfocjcdfpnbkjaa
open Go.RowKit Go.Sort

theorem and_bit14 (s k : Nat) (hs : s < 18446744073709551616) : bits .and .u64 ((s : Int) / 2 ^ k) 1 = (if s.testBit k = true then 1 else 0 : Int) := by
  have e1 : ((s : Int) / 2 ^ k) = ((s / 2 ^ k : Nat) : Int) := by rw [Int.natCast_ediv, Int.natCast_pow]; rfl
  rw [e1, show (1 : Int) = ((1 : Nat) : Int) from rfl, bits_and_u64_nat _ 1 (Nat.lt_of_le_of_lt (Nat.div_le_self _ _) hs) (by decide), Nat.and_one_is_mod, Nat.testBit_eq_decide_div_mod_eq]
  by_cases h : s / 2 ^ k % 2 = 1
  · rw [h]; simp
  · rw [show s / 2 ^ k % 2 = 0 by omega]; simp
set_option maxHeartbeats 4000000 in
theorem ro_member (r : Ro) (p : Int) (w : World) (hm : r.ms < 18446744073709551616) :
    Calls Try.prog 108 #[.agg r.cs.toArray, .int .i64 p] w fun e w' => e = .returned (.bool (mem r.ms p)) ∧ Grw w w' := by
  have c1 := (RoB.new w r).c1
  have HG := Lib.hid ((Grw.refl w).alloc (.cells r.cs.toArray 41))
  have HM := Lib.hid hm
  obtain ⟨ms, hms⟩ : ∃ ms, ms = r.ms := ⟨_, rfl⟩
  rw [← hms] at c1 HM
  rw [← hms]
  generalize r.cs.toArray = C at *
  by_cases h0 : 0 ≤ p
  · by_cases h1 : p < 64
    · obtain ⟨k, rfl⟩ := Int.eq_ofNat_of_zero_le h0
      have hk : k < 64 := by omega
      have hk' : (k : Int) < 64 := h1
      have hm3 : min k 64 = k := by omega
      rw [mem_nat _ _ hk]
      have hb := and_bit14 ms k HM.out
      cases hbit : ms.testBit k with
      | true =>
        rw [hbit, if_pos rfl] at hb
        clear hms
        go_enter Try.func108, Try.ntmps108
        go_wp2
        go_ret
        exact ⟨rfl, HG.out⟩
      | false =>
        rw [hbit, if_neg (by decide)] at hb
        clear hms
        go_enter Try.func108, Try.ntmps108
        go_wp2
        go_ret
        exact ⟨rfl, HG.out⟩
    · rw [show mem ms p = false by unfold mem; rw [decide_eq_false h1]; simp]
      go_enter Try.func108, Try.ntmps108
      go_wp2
      go_ret
      exact ⟨rfl, HG.out⟩
  · rw [show mem ms p = false by unfold mem; rw [decide_eq_false h0]; simp]
    go_enter Try.func108, Try.ntmps108
    go_wp2
    go_ret
    exact ⟨rfl, HG.out⟩
def ro0 : Ro := ⟨0, 0, slNil, fun _ => 0, 0, 0, slNil, fun _ => 0, ⟨0, 0⟩⟩
theorem ro_zero (w : World) : (zeroValue 41).run Try.prog w = .ok (.agg ro0.cs.toArray) w := by kernel_rfl
/-- The rows of the document's order. -/
structure RoV (w : World) (r : Ro) (L : List Mg) (T : List Td) : Prop where
  hold : SlotAt w r.hs L
  told : DRow w r.zs T
  few : r.hs.n ≤ 1000
  fewz : r.zs.n ≤ 1000
theorem RoV.below {w w' : World} {r : Ro} {L : List Mg} {T : List Td} (h : RoV w r L T) (hb : Below w.heap.size w w') : RoV w' r L T := ⟨h.hold.below hb, h.told.below hb, h.few, h.fewz⟩
/-- Rows that are new lie in new blocks. -/
structure RoN (B : Nat) (r r' : Ro) : Prop where
  hold : r'.hs = r.hs ∨ ∀ x, r'.hs.a = some x → B ≤ x.block
  told : r'.zs = r.zs ∨ ∀ x, r'.zs.a = some x → B ≤ x.block
theorem RoN.same (B : Nat) (r : Ro) : RoN B r r := ⟨.inl rfl, .inl rfl⟩
/-- Amid Take. -/
structure TkSt (w V : World) (e0 : Nat) (r : Ro) (m : Mg) : Prop where
  below : Below e0 w V
  e : RoB V e0 r
  m : MgB V (e0 + 1) m
  z : RoB V (e0 + 2) ro0
  sz : e0 + 3 ≤ V.heap.size
section
variable {w V V' : World} {e0 : Nat} {r : Ro} {m : Mg}
theorem TkSt.later (h : TkSt w V e0 r m) (hb : Below V.heap.size V V') : TkSt w V' e0 r m :=
  ⟨h.below.trans (hb.mono (by have := h.sz; omega)), h.e.below hb, MgB.later h.m hb, h.z.below hb, Nat.le_trans h.sz hb.size⟩
theorem TkSt.cells (h : TkSt w V e0 r m) (o : Nat) (vs : List Value) (r' : Ro) (hr : RoB (V.setCells e0 o vs) e0 r') : TkSt w (V.setCells e0 o vs) e0 r' m :=
  ⟨h.below.grown (grownCells12 e0 vs o V) (by have := h.sz; omega) (fun k hk => by cases hk; exact Nat.le_refl _), hr, (World.heap_setCells_other V e0 o vs h.m.lt (by omega)).trans h.m, (World.heap_setCells_other V e0 o vs h.z.lt (by omega)).trans h.z, by rw [size_setCells12]; exact h.sz⟩
theorem TkSt.first (w : World) (r : Ro) (m : Mg) : TkSt w (((w.alloc (.cells r.cs.toArray 41)).alloc (.cells (encG m).toArray 47)).alloc (.cells ro0.cs.toArray 41)) w.heap.size r m := by
  have G1 := (Grw.refl w).alloc (.cells r.cs.toArray 41)
  have G2 := G1.alloc (.cells (encG m).toArray 47)
  have G3 := G2.alloc (.cells ro0.cs.toArray 41)
  have hs1 : (w.alloc (.cells r.cs.toArray 41)).heap.size = w.heap.size + 1 := by simp
  have hs2 : ((w.alloc (.cells r.cs.toArray 41)).alloc (.cells (encG m).toArray 47)).heap.size = w.heap.size + 2 := by simp
  refine ⟨G3.below, ((RoB.new w r).below ((Grw.refl _).alloc _).below).below ((Grw.refl _).alloc _).below, ?_, ?_, by simp⟩
  · have := MgB.later (MgB.new (w.alloc (.cells r.cs.toArray 41)) m) ((Grw.refl _).alloc (.cells ro0.cs.toArray 41)).below
    rw [hs1] at this
    exact this
  · have := RoB.new ((w.alloc (.cells r.cs.toArray 41)).alloc (.cells (encG m).toArray 47)) ro0
    rw [hs2] at this
    exact this
end
/-- What is told of a message that is taken. -/
def takeT (r : Ro) (m : Mg) (T : List Td) : List Td := if m.f ≠ r.me ∧ mem r.oth m.f = true then T ++ [⟨0, m.f, m.q.toNat, m.s.toNat⟩] else T
def takeClk (r : Ro) (m : Mg) : Nat := if m.f ≠ r.me then (if mem r.oth m.f then max r.clk m.s.toNat else r.clk) else max r.clk m.s.toNat
/-- What the document's Take answers. -/
def RTake (w : World) (r : Ro) (code : Int) (clk : Nat) (L : List Mg) (T : List Td) (e : Ending) (w' : World) : Prop :=
  ∃ t u, e = .returned (.tuple #[.agg ({ r with hs := t, zs := u, clk := clk } : Ro).cs.toArray, .int .i64 code]) ∧ RoV w' { r with hs := t, zs := u, clk := clk } L T ∧ Below w.heap.size w w' ∧ RoN w.heap.size r { r with hs := t, zs := u, clk := clk }
set_option maxHeartbeats 4000000 in
theorem ro_take_no (r : Ro) (L : List Mg) (T : List Td) (w : World) (hV : RoV w r L T) (hm : r.ms < 18446744073709551616) (f : Int) (q st : Nat) (v : Int) (a : Option Addr) (dl dc : Nat) (deps : List Int) (text : ByteArray) (hn : mem r.ms f = false) :
    Calls Try.prog 66 #[.agg r.cs.toArray, .agg #[.int .i64 f, .int .u32 (q : Int), .int .u64 (st : Int), .int .i64 v, .slice a dl dc, .string text]] w (RTake w r 5 r.clk L T) := by
  have FST := TkSt.first w r ⟨f, (q : Int), (st : Int), v, a, dl, dc, deps, text⟩
  have HV := Lib.hid (show ∀ w', Below w.heap.size w w' → RoV w' r L T from fun w' hb => hV.below hb)
  have hz := ro_zero
  simp only [encG] at FST
  have FST2 := Lib.hid FST
  have PM := ro_member r f (((w.alloc (.cells r.cs.toArray 41)).alloc (.cells #[.int .i64 f, .int .u32 (q : Int), .int .u64 (st : Int), .int .i64 v, .slice a dl dc, .string text] 47)).alloc (.cells ro0.cs.toArray 41)) hm
  rw [hn] at PM
  clear FST hV
  go_enter Try.func66, Try.ntmps66
  go_upto_region 1 with fail
  generalize (((w.alloc (.cells r.cs.toArray 41)).alloc (.cells #[.int .i64 f, .int .u32 (q : Int), .int .u64 (st : Int), .int .i64 v, .slice a dl dc, .string text] 47)).alloc (.cells ro0.cs.toArray 41)) = W at *
  generalize he0 : w.heap.size = e0 at *
  have HE0 := Lib.hid he0
  clear he0
  have c10 : W.cell? ⟨e0 + 1, 0, none⟩ = some (.int .i64 f) := FST2.out.m.own.at_ 0 _ rfl
  go_wp2_with (first | (refine load_ro rfl (.tmp 2) rfl e0 r rfl FST2.out.e ?_) | fail)
  with_reducible refine PM.mono ?_
  rintro e w4 ⟨rfl, hG⟩
  have S4 := Lib.hid (FST2.out.later hG.below)
  clear PM hG FST2 c10
  go_wp2_with (first | (refine load_ro rfl (.tmp 2) rfl e0 _ rfl S4.out.e ?_) | (refine store_ro rfl (.tmp 4) (.tmp 13) rfl (e0 + 2) _ rfl rfl S4.out.z ?_))
  (try simp only [Exit.inBlock, Exit.then])
  exact bodyPost_ret (v := .tuple #[.agg _, .int .i64 5]) (results_ro2 (p := 4) (u := 5) rfl _ _ (e0 + 2) rfl (S4.out.z.row _)) rfl ⟨r.hs, r.zs, rfl, HV.out _ (belowRow10 S4.out.below _ (by omega) _), by rw [HE0.out]; exact belowRow10 S4.out.below _ (by omega) _, RoN.same _ _⟩
/-- The rows amid Take: the hold's and what was told. -/
structure TkV (V : World) (e0 : Nat) (t : Sl) (L : List Mg) (u : Sl) (T : List Td) : Prop where
  hold : SlotAt V t L
  told : DRow V u T
  n1 : ∀ x, t.a = some x → x.block < e0 ∨ e0 + 3 ≤ x.block
  n2 : ∀ x, u.a = some x → x.block < e0 ∨ e0 + 3 ≤ x.block
section
variable {w V V' : World} {e0 : Nat} {t u : Sl} {L : List Mg} {T : List Td}
theorem TkV.start {r : Ro} (h : RoV w r L T) : TkV w w.heap.size r.hs L r.zs T := ⟨h.hold, h.told, fun x hx => .inl (h.hold.lt x hx), fun x hx => .inl (h.told.lt x hx)⟩
theorem TkV.later (h : TkV V e0 t L u T) (hb : Below V.heap.size V V') : TkV V' e0 t L u T := ⟨h.hold.below hb, h.told.below hb, h.n1, h.n2⟩
theorem TkV.put (h : TkV V e0 t L u T) (hs : e0 + 3 ≤ V.heap.size) (hb : Below V.heap.size V V') {t' : Sl} {L' : List Mg} (ht : SlotAt V' t' L') (hn : t' = t ∨ ∀ x, t'.a = some x → V.heap.size ≤ x.block) : TkV V' e0 t' L' u T :=
  ⟨ht, h.told.below hb, fun x hx => by
    rcases hn with rfl | hn
    · exact h.n1 x hx
    · have := hn x hx; exact .inr (by omega), h.n2⟩
theorem TkV.tell (h : TkV V e0 t L u T) (hs : e0 + 3 ≤ V.heap.size) (hb : Below V.heap.size V V') {u' : Sl} {T' : List Td} (ht : DRow V' u' T') (hn : u' = u ∨ ∀ x, u'.a = some x → V.heap.size ≤ x.block) : TkV V' e0 t L u' T' :=
  ⟨h.hold.below hb, ht, h.n1, fun x hx => by
    rcases hn with rfl | hn
    · exact h.n2 x hx
    · have := hn x hx; exact .inr (by omega)⟩
theorem TkV.cells (h : TkV V e0 t L u T) (o : Nat) (vs : List Value) : TkV (V.setCells e0 o vs) e0 t L u T :=
  ⟨h.hold.kept fun x hx => World.heap_setCells_other V e0 o vs (h.hold.lt x hx) (by have := h.n1 x hx; omega), h.told.kept (by rw [size_setCells12]; exact Nat.le_refl _) fun x hx => World.heap_setCells_other V e0 o vs (h.told.lt x hx) (by have := h.n2 x hx; omega), h.n1, h.n2⟩
theorem TkV.row (h : TkV V e0 t L u T) (cs : Array Value) : TkV (V.setRow (e0 + 2) cs) e0 t L u T :=
  ⟨h.hold.kept fun x hx => setRow_other _ _ _ _ (by have := h.n1 x hx; omega), h.told.kept (by rw [size_setRow]; exact Nat.le_refl _) fun x hx => setRow_other _ _ _ _ (by have := h.n2 x hx; omega), h.n1, h.n2⟩
end
theorem rput_no {L : List Mg} {m : Mg} (h : rcode L m ≠ 0) : rputL L m = L := by
  unfold rcode at h
  unfold rputL
  split
  · rename_i h1
    rw [if_pos h1] at h
    split
    · rename_i h2; rw [if_pos h2] at h; exact absurd rfl h
    · rfl
  · rfl
theorem rput_len (L : List Mg) (m : Mg) : (rputL L m).length ≤ L.length + 1 := by
  unfold rputL
  split
  · split
    · simp
    · omega
  · omega
theorem RoB.setClk {w : World} {b : Nat} {r : Ro} (h : RoB w b r) (c : Nat) : RoB (w.setCells b 67 [.int .u64 (c : Int)]) b { r with clk := c } := h.mid 67 _ _ (by simp) (by
  unfold Ro.cs
  rw [List.take_append, List.take_append, List.drop_append, List.drop_append, List.drop_append]
  simp [rhC_length, rzC_length]
  rw [List.take_of_length_le (by rw [rhC_length]; decide), List.drop_of_length_le (by rw [rhC_length]; decide)]
  simp [rzC])
set_option maxHeartbeats 4000000 in
theorem ro_take_yes (r : Ro) (L : List Mg) (T : List Td) (w : World) (hV : RoV w r L T) (hm : r.ms < 18446744073709551616) (hf1 : r.hs.n ≤ 999) (hf2 : r.zs.n ≤ 999) (f : Int) (q st : Nat) (hq : q < 4294967296) (hs : st < 18446744073709551616) (v : Int) (a : Option Addr) (dl dc : Nat) (deps : List Int) (text : ByteArray) (hn : mem r.ms f = true) :
    Calls Try.prog 66 #[.agg r.cs.toArray, .agg #[.int .i64 f, .int .u32 (q : Int), .int .u64 (st : Int), .int .i64 v, .slice a dl dc, .string text]] w (RTake w r (rcode L ⟨f, (q : Int), (st : Int), v, a, dl, dc, deps, text⟩) (if rcode L ⟨f, (q : Int), (st : Int), v, a, dl, dc, deps, text⟩ = 0 then takeClk r ⟨f, (q : Int), (st : Int), v, a, dl, dc, deps, text⟩ else r.clk) (rputL L ⟨f, (q : Int), (st : Int), v, a, dl, dc, deps, text⟩) (if rcode L ⟨f, (q : Int), (st : Int), v, a, dl, dc, deps, text⟩ = 0 then takeT r ⟨f, (q : Int), (st : Int), v, a, dl, dc, deps, text⟩ T else T)) := by
  have HFEW := Lib.hid (show r.hs.n ≤ 1000 by omega)
  obtain ⟨cd, hcd⟩ : ∃ cd, cd = rcode L ⟨f, (q : Int), (st : Int), v, a, dl, dc, deps, text⟩ := ⟨_, rfl⟩
  obtain ⟨LL, hLL⟩ : ∃ LL, LL = rputL L ⟨f, (q : Int), (st : Int), v, a, dl, dc, deps, text⟩ := ⟨_, rfl⟩
  obtain ⟨ck, hck⟩ : ∃ ck, ck = (if rcode L ⟨f, (q : Int), (st : Int), v, a, dl, dc, deps, text⟩ = 0 then takeClk r ⟨f, (q : Int), (st : Int), v, a, dl, dc, deps, text⟩ else r.clk) := ⟨_, rfl⟩
  obtain ⟨TT, hTT⟩ : ∃ TT, TT = (if rcode L ⟨f, (q : Int), (st : Int), v, a, dl, dc, deps, text⟩ = 0 then takeT r ⟨f, (q : Int), (st : Int), v, a, dl, dc, deps, text⟩ T else T) := ⟨_, rfl⟩
  rw [← hck, ← hTT, ← hLL, ← hcd]
  rw [← hcd] at hck hTT
  have HCK := Lib.hid hck
  have HTT := Lib.hid hTT
  have HLL := Lib.hid hLL
  have HCD := Lib.hid hcd
  have hLn : L.length = r.hs.n := hV.hold.len
  have HFT : Hid (∀ t : Sl, LL.length = t.n → t.n ≤ 1000) := Lib.hid fun t ht => by
    have := rput_len L ⟨f, (q : Int), (st : Int), v, a, dl, dc, deps, text⟩
    rw [← hLL] at this
    omega
  have HFZ := Lib.hid hV.fewz
  have HFZ2 : Hid (∀ u : Sl, TT.length = u.n → u.n ≤ 1000) := Lib.hid fun u hu => by
    have h1 := hV.told.lst.size
    have h2 : TT.length ≤ T.length + 1 := by
      rw [hTT]; unfold takeT
      split <;> (try split) <;> simp
    omega
  clear hLn
  clear hck hTT hLL hcd
  have FST := TkSt.first w r ⟨f, (q : Int), (st : Int), v, a, dl, dc, deps, text⟩
  have HV := Lib.hid (show ∀ w', Below w.heap.size w w' → RoV w' r L T from fun w' hb => hV.below hb)
  have HROW := Lib.hid (TkV.start hV)
  have hz := ro_zero
  have hz2 := rh_zero
  simp only [encG] at FST
  have FST2 := Lib.hid FST
  have PM := ro_member r f (((w.alloc (.cells r.cs.toArray 41)).alloc (.cells #[.int .i64 f, .int .u32 (q : Int), .int .u64 (st : Int), .int .i64 v, .slice a dl dc, .string text] 47)).alloc (.cells ro0.cs.toArray 41)) hm
  rw [hn] at PM
  clear FST hV
  go_enter Try.func66, Try.ntmps66
  go_upto_region 1 with fail
  generalize (((w.alloc (.cells r.cs.toArray 41)).alloc (.cells #[.int .i64 f, .int .u32 (q : Int), .int .u64 (st : Int), .int .i64 v, .slice a dl dc, .string text] 47)).alloc (.cells ro0.cs.toArray 41)) = W at *
  generalize he0 : w.heap.size = e0 at *
  have HE0 := Lib.hid he0
  clear he0
  have c10 : W.cell? ⟨e0 + 1, 0, none⟩ = some (.int .i64 f) := FST2.out.m.own.at_ 0 _ rfl
  go_wp2_with (first | (refine load_ro rfl (.tmp 2) rfl e0 r rfl FST2.out.e ?_) | fail)
  with_reducible refine PM.mono ?_
  rintro e w4 ⟨rfl, hG⟩
  have S4 := Lib.hid (FST2.out.later hG.below)
  have V4 := Lib.hid (HROW.out.later (by rw [HE0.out]; exact S4.out.below))
  clear PM hG FST2 c10
  have PP := rh_put r.hs r.lo L w4 V4.out.hold HFEW.out ⟨f, (q : Int), (st : Int), v, a, dl, dc, deps, text⟩ (show 0 ≤ (q : Int) by omega) (show (q : Int) < 4294967296 by omega)
  unfold valG RPut at PP
  simp only [encG] at PP
  rw [← HLL.out, ← HCD.out] at PP
  go_wp2_with (first | (refine load_hold rfl (.tmp 15) rfl e0 r rfl S4.out.e ?_) | (refine load_mg rfl (.tmp 3) rfl (e0 + 1) rfl S4.out.m ?_; unfold valG; simp only [encG]) | fail)
  with_reducible refine PP.mono ?_
  rintro e w5 hs
  obtain ⟨t, rfl, hSt, hB5, hnew⟩ := hs
  have S5 := Lib.hid (S4.out.later hB5)
  have V5 := Lib.hid (V4.out.put S4.out.sz hB5 hSt hnew)
  have HT := Lib.hid (And.intro hnew S4.out.sz)
  clear PP hSt hB5 hnew S4 V4
  have B6 := belowRow10 ((Grw.refl w5).alloc (.cells (rhC slNil (fun _ => 0)).toArray 33)).below w5.heap.size (Nat.le_refl _) (rhC t r.lo).toArray
  have S6 := Lib.hid (S5.out.later B6)
  have V6 := Lib.hid (V5.out.later B6)
  have HH := Lib.hid ((RhB.new w5 slNil (fun _ => 0)).row t r.lo)
  have HN5 := Lib.hid (RhB.new w5 slNil (fun _ => 0))
  have hsz6 : e0 + 3 ≤ w5.heap.size := S5.out.sz
  clear B6 S5 V5
  go_upto_region 4 with (first | (refine store_rh rfl (.tmp 6) (.tmp 19) rfl w5.heap.size t r.lo rfl rfl HN5.out ?_) | fail)
  generalize (w5.alloc (.cells (rhC slNil (fun _ => 0)).toArray 33)).setRow w5.heap.size (rhC t r.lo).toArray = w6 at *
  clear HN5
  obtain ⟨hb, hhb⟩ : ∃ hb, hb = w5.heap.size := ⟨_, rfl⟩
  rw [← hhb] at HH hsz6
  try rw [← hhb]
  clear hhb
  by_cases hc : cd = 0
  · subst hc
    have hck : ck = takeClk r ⟨f, (q : Int), (st : Int), v, a, dl, dc, deps, text⟩ := by rw [HCK.out, if_pos rfl]
    have hTT : TT = takeT r ⟨f, (q : Int), (st : Int), v, a, dl, dc, deps, text⟩ T := by rw [HTT.out, if_pos rfl]
    have S7 := Lib.hid (S6.out.cells 2 (rhC t r.lo) _ (S6.out.e.setH t r.lo))
    have V7 := Lib.hid (V6.out.cells 2 (rhC t r.lo))
    go_upto_region 7 with (first | (refine load_rh rfl (.tmp 6) rfl hb t r.lo rfl HH.out ?_) | (refine store_hold rfl (.tmp 26) (.tmp 25) rfl e0 r t r.lo rfl rfl S6.out.e ?_) | fail)
    generalize w6.setCells e0 2 (rhC t r.lo) = w7 at *
    clear S6 V6 HH
    have b0 : w7.cell? ⟨e0, 0, none⟩ = some (.int .i64 r.me) := S7.out.e.c0
    have m0 : w7.cell? ⟨e0 + 1, 0, none⟩ = some (.int .i64 f) := S7.out.m.own.at_ 0 _ rfl
    have m1 : w7.cell? ⟨e0 + 1, 1, none⟩ = some (.int .u32 (q : Int)) := S7.out.m.own.at_ 1 _ rfl
    have m2 : w7.cell? ⟨e0 + 1, 2, none⟩ = some (.int .u64 (st : Int)) := S7.out.m.own.at_ 2 _ rfl
    obtain ⟨me, hme0⟩ : ∃ me, me = r.me := ⟨_, rfl⟩
    rw [← hme0] at b0
    have HME := Lib.hid hme0
    clear hme0
    have b67 : w7.cell? ⟨e0, 67, none⟩ = some (.int .u64 (r.clk : Int)) := S7.out.e.clock
    have f67 : w7.frozen? ⟨e0, 67, none⟩ = false := S7.out.e.free 67
    by_cases hme : f = me
    · obtain ⟨rc, hrc⟩ : ∃ rc, rc = r.clk := ⟨_, rfl⟩
      rw [← hrc] at b67
      have HRC := Lib.hid hrc
      clear hrc
      by_cases hlt : rc < st
      · have hlt' : (rc : Int) < (st : Int) := by omega
        have HK : Hid (ck = st) := Lib.hid (by
          rw [hck]; unfold takeClk
          rw [if_neg (fun e => e (hme.trans HME.out)), ← HRC.out]
          show max rc (Int.toNat (st : Int)) = st
          rw [Int.toNat_natCast]; omega)
        have HT3 : Hid (TT = T) := Lib.hid (by rw [hTT]; unfold takeT; rw [if_neg (fun e => e.1 (hme.trans HME.out))])
        have S8 := Lib.hid (S7.out.cells 67 [.int .u64 (st : Int)] _ (S7.out.e.setClk st))
        have V8 := Lib.hid (V7.out.cells 67 [.int .u64 (st : Int)])
        clear hck hTT
        go_upto_region 11 with fail
        change Hid (TkSt w (w7.setCell ⟨e0, 67, none⟩ (.int .u64 (st : Int))) e0 _ _) at S8
        change Hid (TkV (w7.setCell ⟨e0, 67, none⟩ (.int .u64 (st : Int))) e0 t LL r.zs T) at V8
        generalize w7.setCell ⟨e0, 67, none⟩ (.int .u64 (st : Int)) = w8 at *
        clear S7 V7 b0 m0 m1 m2 b67 f67
        go_wp2_with (first | (refine load_ro rfl (.tmp 2) rfl e0 _ rfl S8.out.e ?_) | (refine store_ro rfl (.tmp 4) (.tmp 53) rfl (e0 + 2) _ rfl rfl S8.out.z ?_))
        (try simp only [Exit.inBlock, Exit.then])
        exact bodyPost_ret (v := .tuple #[.agg _, .int .i64 0]) (results_ro2 (p := 4) (u := 5) rfl _ _ (e0 + 2) rfl (S8.out.z.row _)) rfl (by
          rw [HK.out, HT3.out]; exact ⟨t, r.zs, rfl, ⟨(V8.out.row _).hold, (V8.out.row _).told, HFT.out t V8.out.hold.len, HFZ.out⟩, by rw [HE0.out]; exact belowRow10 S8.out.below _ (by omega) _, ⟨by rcases HT.out.1 with e | e; exact .inl e; exact .inr fun x hx => by have := e x hx; have := HT.out.2; have := HE0.out; omega, .inl rfl⟩⟩)
      · have hlt' : ¬ (rc : Int) < (st : Int) := by omega
        have HK : Hid (ck = r.clk) := Lib.hid (by
          rw [hck]; unfold takeClk
          rw [if_neg (fun e => e (hme.trans HME.out))]
          show max r.clk (Int.toNat (st : Int)) = r.clk
          rw [Int.toNat_natCast, ← HRC.out]; omega)
        have HT3 : Hid (TT = T) := Lib.hid (by rw [hTT]; unfold takeT; rw [if_neg (fun e => e.1 (hme.trans HME.out))])
        clear hck hTT
        go_upto_region 11 with fail
        have S8 := S7
        have V8 := V7
        generalize w7 = w8 at *
        clear S7 V7 b0 m0 m1 m2 b67 f67
        go_wp2_with (first | (refine load_ro rfl (.tmp 2) rfl e0 _ rfl S8.out.e ?_) | (refine store_ro rfl (.tmp 4) (.tmp 53) rfl (e0 + 2) _ rfl rfl S8.out.z ?_))
        (try simp only [Exit.inBlock, Exit.then])
        exact bodyPost_ret (v := .tuple #[.agg _, .int .i64 0]) (results_ro2 (p := 4) (u := 5) rfl _ _ (e0 + 2) rfl (S8.out.z.row _)) rfl (by
          rw [HK.out, HT3.out]; exact ⟨t, r.zs, rfl, ⟨(V8.out.row _).hold, (V8.out.row _).told, HFT.out t V8.out.hold.len, HFZ.out⟩, by rw [HE0.out]; exact belowRow10 S8.out.below _ (by omega) _, ⟨by rcases HT.out.1 with e | e; exact .inl e; exact .inr fun x hx => by have := e x hx; have := HT.out.2; have := HE0.out; omega, .inl rfl⟩⟩)
    · have HK : Hid (ck = (if mem r.oth f then tellClk r.clk ⟨0, f, q, st⟩ else r.clk)) := Lib.hid (by
        rw [hck]; unfold takeClk
        rw [if_pos (show f ≠ r.me from fun e => hme (e.trans HME.out.symm))]
        show (if mem r.oth f then max r.clk (Int.toNat (st : Int)) else r.clk) = _
        rw [Int.toNat_natCast]; rfl)
      have HT3 : Hid (TT = (if mem r.oth f then T ++ [⟨0, f, q, st⟩] else T)) := Lib.hid (by
        rw [hTT]; unfold takeT
        show (if f ≠ r.me ∧ mem r.oth f = true then T ++ [⟨0, f, Int.toNat (q : Int), Int.toNat (st : Int)⟩] else T) = _
        rw [Int.toNat_natCast, Int.toNat_natCast]
        cases mem r.oth f with
        | true => rw [if_pos ⟨fun e => hme (e.trans HME.out.symm), rfl⟩]; rfl
        | false => rw [if_neg (fun e => Bool.noConfusion e.2)]; rfl)
      have PT := rz_tell r.clk r.oth r.zs T w7 V7.out.told (by omega) ⟨0, f, q, st⟩
      rw [← HK.out, ← HT3.out] at PT
      simp only at PT
      clear hck hTT b67 f67
      go_upto_region 8 with fail
      go_wp2_with (first | (refine load_hz rfl (.tmp 32) rfl e0 _ rfl S7.out.e ?_) | fail)
      with_reducible refine PT.mono ?_
      rintro e w9 hs
      obtain ⟨u, rfl, hTl, hB9, hnz⟩ := hs
      have S9 := Lib.hid (S7.out.later hB9)
      have V9 := Lib.hid (V7.out.tell S7.out.sz hB9 hTl hnz)
      have HNZ := Lib.hid (And.intro hnz S7.out.sz)
      have S8 := Lib.hid (S9.out.cells 67 (rzC ck r.oth u) _ (S9.out.e.setZ ck r.oth u))
      have V8 := Lib.hid (V9.out.cells 67 (rzC ck r.oth u))
      clear PT hTl hB9 hnz S7 V7 b0 m0 m1 m2
      go_upto_region 11 with (first | (refine store_hz rfl (.tmp 42) (.tmp 41) rfl e0 _ ck r.oth u rfl rfl S9.out.e ?_) | fail)
      generalize w9.setCells e0 67 (rzC ck r.oth u) = w8 at *
      clear S9 V9
      go_wp2_with (first | (refine load_ro rfl (.tmp 2) rfl e0 _ rfl S8.out.e ?_) | (refine store_ro rfl (.tmp 4) (.tmp 53) rfl (e0 + 2) _ rfl rfl S8.out.z ?_))
      (try simp only [Exit.inBlock, Exit.then])
      exact bodyPost_ret (v := .tuple #[.agg _, .int .i64 0]) (results_ro2 (p := 4) (u := 5) rfl _ _ (e0 + 2) rfl (S8.out.z.row _)) rfl (by
        exact ⟨t, u, rfl, ⟨(V8.out.row _).hold, (V8.out.row _).told, HFT.out t V8.out.hold.len, HFZ2.out u V8.out.told.lst.size⟩, by rw [HE0.out]; exact belowRow10 S8.out.below _ (by omega) _, ⟨by rcases HT.out.1 with e | e; exact .inl e; exact .inr fun x hx => by have := e x hx; have := HT.out.2; have := HE0.out; omega, (by rcases HNZ.out.1 with e | e; exact .inl e; exact .inr fun x hx => by have := e x hx; have := HNZ.out.2; have := HE0.out; omega)⟩⟩)
  · have hck : ck = r.clk := by rw [HCK.out, if_neg hc]
    have hTT : TT = T := by rw [HTT.out, if_neg hc]
    have HL3 : Hid (LL = L) := Lib.hid (by rw [HLL.out]; exact rput_no (by rw [← HCD.out]; exact hc))
    have hc2 : ¬ cd = 0 := hc
    have HCK3 := Lib.hid hck
    have HTT3 := Lib.hid hTT
    clear hck hTT V6 HH
    go_upto_region 5 with fail
    go_wp2_with (first | (refine load_ro rfl (.tmp 2) rfl e0 _ rfl S6.out.e ?_) | (refine store_ro rfl (.tmp 4) (.tmp 23) rfl (e0 + 2) _ rfl rfl S6.out.z ?_))
    (try simp only [Exit.inBlock, Exit.then])
    exact bodyPost_ret (v := .tuple #[.agg r.cs.toArray, .int .i64 cd]) (results_ro2 (p := 4) (u := 5) rfl _ _ (e0 + 2) rfl (S6.out.z.row r)) rfl (by
      rw [HCK3.out, HTT3.out, HL3.out]
      exact ⟨r.hs, r.zs, rfl, HV.out _ (belowRow10 S6.out.below _ (by omega) _), by rw [HE0.out]; exact belowRow10 S6.out.below _ (by omega) _, RoN.same _ _⟩)
/-- The document's Take. -/
theorem ro_take (r : Ro) (L : List Mg) (T : List Td) (w : World) (hV : RoV w r L T) (hm : r.ms < 18446744073709551616) (hf1 : r.hs.n ≤ 999) (hf2 : r.zs.n ≤ 999) (m : Mg) (q0 : 0 ≤ m.q) (q1 : m.q < 4294967296) (s0 : 0 ≤ m.s) (s1 : m.s < 18446744073709551616) :
    Calls Try.prog 66 #[.agg r.cs.toArray, valG m] w (RTake w r (if mem r.ms m.f then rcode L m else 5) (if mem r.ms m.f ∧ rcode L m = 0 then takeClk r m else r.clk) (if mem r.ms m.f then rputL L m else L) (if mem r.ms m.f ∧ rcode L m = 0 then takeT r m T else T)) := by
  obtain ⟨f, q, s, v, a, dl, dc, deps, text⟩ := m
  simp only at q0 q1 s0 s1
  obtain ⟨q, rfl⟩ := Int.eq_ofNat_of_zero_le q0
  obtain ⟨s, rfl⟩ := Int.eq_ofNat_of_zero_le s0
  cases hn : mem r.ms f with
  | false =>
    have := ro_take_no r L T w hV hm f q s v a dl dc deps text hn
    simpa [hn, valG, encG] using this
  | true =>
    have := ro_take_yes r L T w hV hm hf1 hf2 f q s (by omega) (by omega) v a dl dc deps text hn
    simpa [hn, valG, encG] using this
end Go.Proofs.Ytfocjcdfpnbkjaa
